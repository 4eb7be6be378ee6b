/- A table in memory: a block of three cells, a block of values, a block of marks; copy of values into a block. -/
import Derived.Test.YtfeepmahipecpaaOpen
import Derived.StillTailTactics
namespace Go.Proofs.Ytfeepmahipecpaa.pd
open Go.RowKit Go.Proofs.Ytfeepmahipecpaa.mem Go.Proofs.Ytfeepmahipecpaa.base

/-- Marks as values. -/
def bv (ds : List Bool) : List Value := ds.map Value.bool

/-- A table at block p: its values in block V, its marks in block D. -/
structure PAt (T e : TypeId) (w : World) (p V D per : Nat) (vs : List Value) (ds : List Bool) : Prop where
  cells : Blk w p T #[.slice (some ⟨V, 0, none⟩) vs.length vs.length, .int .i64 per, .slice (some ⟨D, 0, none⟩) ds.length ds.length]
  vals : Blk w V e vs.toArray
  marks : Blk w D 4 (bv ds).toArray
  pV : p ≠ V
  pD : p ≠ D
  VD : V ≠ D
  n1 : 1 ≤ vs.length
  n2 : vs.length ≤ 65536
  p1 : 1 ≤ per
  p2 : per ≤ 65536
  pages : ds.length = (vs.length + per - 1) / per

section
variable {T e : TypeId} {w w' : World} {p V D per : Nat} {vs : List Value} {ds : List Bool}
theorem PAt.kept {S : List Nat} (h : PAt T e w p V D per vs ds) (k : Kept S w w') (hp : p ∉ S) (hV : V ∉ S) (hD : D ∉ S) : PAt T e w' p V D per vs ds :=
  { h with cells := k.blk h.cells hp, vals := k.blk h.vals hV, marks := k.blk h.marks hD }
theorem PAt.keep (h : PAt T e w p V D per vs ds) (k : Kept [] w w') : PAt T e w' p V D per vs ds := h.kept k (by simp) (by simp) (by simp)
theorem PAt.c0 (h : PAt T e w p V D per vs ds) : w.cell? ⟨p, 0, none⟩ = some (.slice (some ⟨V, 0, none⟩) vs.length vs.length) := by rw [h.cells.cell]; rfl
theorem PAt.c1 (h : PAt T e w p V D per vs ds) : w.cell? ⟨p, 1, none⟩ = some (.int .i64 per) := by rw [h.cells.cell]; rfl
theorem PAt.c2 (h : PAt T e w p V D per vs ds) : w.cell? ⟨p, 2, none⟩ = some (.slice (some ⟨D, 0, none⟩) ds.length ds.length) := by rw [h.cells.cell]; rfl
theorem PAt.val (h : PAt T e w p V D per vs ds) {i : Nat} {v : Value} (hi : vs[i]? = some v) : w.cell? ⟨V, i, none⟩ = some v := by rw [h.vals.cell]; simpa using hi
theorem PAt.mark (h : PAt T e w p V D per vs ds) {i : Nat} {b : Bool} (hi : ds[i]? = some b) : w.cell? ⟨D, i, none⟩ = some (.bool b) := by rw [h.marks.cell]; simp [bv, hi]
theorem PAt.m1 (h : PAt T e w p V D per vs ds) : 1 ≤ ds.length := by
  have h1 := h.n1
  have h2 := h.p1
  rw [h.pages]
  exact (Nat.le_div_iff_mul_le h2).2 (by omega)
theorem PAt.m2 (h : PAt T e w p V D per vs ds) : ds.length ≤ 65536 := by
  have h1 := h.n1
  have h2 := h.p1
  have h3 := h.n2
  rw [h.pages]
  refine Nat.le_trans (Nat.div_le_of_le_mul (n := vs.length) ?_) h3
  have : 1 * (vs.length - 1) ≤ per * (vs.length - 1) := Nat.mul_le_mul_right _ h2
  obtain ⟨m, hm⟩ : ∃ m, vs.length = m + 1 := ⟨vs.length - 1, by omega⟩
  rw [hm] at this ⊢
  simp only [Nat.add_sub_cancel] at this
  rw [Nat.mul_add]
  omega
theorem PAt.pl (h : PAt T e w p V D per vs ds) : p < w.heap.size := h.cells.lt
theorem PAt.Vl (h : PAt T e w p V D per vs ds) : V < w.heap.size := h.vals.lt
theorem PAt.Dl (h : PAt T e w p V D per vs ds) : D < w.heap.size := h.marks.lt
/-- The page of a place. -/
theorem PAt.page (h : PAt T e w p V D per vs ds) {i : Nat} (hi : i < vs.length) : i / per < ds.length := by
  have h2 := h.p1
  rw [h.pages]
  rw [Nat.div_lt_iff_lt_mul h2]
  have h3 := Nat.div_add_mod (vs.length + per - 1) per
  have h4 := Nat.mod_lt (vs.length + per - 1) h2
  rw [Nat.mul_comm]
  omega
/-- A page begins ahead of the end. -/
theorem PAt.starts (h : PAt T e w p V D per vs ds) {k : Nat} (hk : k < ds.length) : k * per < vs.length := by
  have h2 := h.p1
  rw [h.pages] at hk
  have h3 := Nat.div_mul_le_self (vs.length + per - 1) per
  have h4 : (k + 1) * per ≤ (vs.length + per - 1) / per * per := Nat.mul_le_mul_right _ hk
  rw [Nat.add_mul] at h4
  omega
/-- A value is set. -/
theorem PAt.set (h : PAt T e w p V D per vs ds) (i : Nat) (v : Value) : PAt T e (w.setCell ⟨V, i, none⟩ v) p V D per (vs.set i v) ds :=
  { h with cells := by rw [List.length_set]; exact h.cells.far_ h.pV i v, vals := by have := h.vals.set_ i v; rwa [List.setIfInBounds_toArray] at this, marks := h.marks.far_ (Ne.symm h.VD) i v, n1 := by rw [List.length_set]; exact h.n1, n2 := by rw [List.length_set]; exact h.n2, pages := by rw [List.length_set]; exact h.pages }
/-- A page is marked. -/
theorem PAt.turn (h : PAt T e w p V D per vs ds) (k : Nat) (b : Bool) : PAt T e (w.setCell ⟨D, k, none⟩ (.bool b)) p V D per vs (ds.set k b) :=
  { h with cells := by rw [List.length_set]; exact h.cells.far_ h.pD k _, vals := h.vals.far_ h.VD k _, marks := by have := h.marks.set_ k (.bool b); rw [List.setIfInBounds_toArray] at this; unfold bv at this ⊢; rwa [List.map_set], pages := by rw [List.length_set]; exact h.pages }
end

/-- Values laid over others from a place on. -/
def lay (cs : List Value) (at_ : Nat) (xs : List Value) : List Value := cs.take at_ ++ (xs ++ cs.drop (at_ + xs.length))
theorem lay_length (cs : List Value) (at_ : Nat) (xs : List Value) (h : at_ + xs.length ≤ cs.length) : (lay cs at_ xs).length = cs.length := by simp [lay]; omega

section
variable {P : Program} {w : World}
/-- copy of values into a block of values from a place on. -/
theorem wp_copy_vals {o : Oper} {a : Act} {K : Act → World → Prop} {Q : Exit → Act → World → Prop} (e : TypeId) (d s : Operand) (dT sT : TypeId)
    (ho : o.op = .call { callee := .builtin .copy, args := #[d, s], argTypes := #[dT, sT] }) (hu : P.underlying dT = some (.slice e)) (hsz : (P.info? e).map (·.size) = some 1)
    (g off dLen dCap sLen sCap : Nat) (sp : Option Addr) (hd : a.eval d = .slice (some ⟨g, off, none⟩) dLen dCap) (hs : a.eval s = .slice sp sLen sCap)
    (xs : List Value) (hn : xs.length = Nat.min sLen dLen) (S : List Nat) (hsrc : Vals w S sp xs) (h1 : ∀ u ∈ xs, u.oneCell' = true) (h0 : 0 < xs.length)
    (cs : List Value) (hdst : Blk w g e cs.toArray) (hfit : off + xs.length ≤ cs.length)
    (h : ∀ w', Kept [g] w w' → Blk w' g e (lay cs off xs).toArray → K (a.put o.dst (goInt xs.length)) w') :
    o.wp P a w K Q := by
  obtain ⟨ad, rfl, _, _⟩ := hsrc 0 xs[0] (List.getElem?_eq_getElem h0)
  have hcells : ∀ j v, xs[j]? = some v → w.cell? (ad.add j) = some v := by
    intro j u hu
    obtain ⟨ad', h, _, hc⟩ := hsrc j u hu
    injection h with h
    subst h
    exact hc
  have hrun := run_copy_row (P := P) w dT sT o.type e g off dLen dCap ad sLen sCap cs.toArray _ xs hu hsz hdst (by simpa using hn) hcells (by simpa using hfit) h1
  unfold Oper.wp
  simp [execOp, ho, resolve, invoke, builtin, hd, hs, hrun, Result.andThen]
  rw [Oper.upon_value]
  refine h _ ⟨rfl, rfl, rfl, by simp, fun k _ hk => setRow_other w g k _ (by simpa using hk)⟩ ?_
  have := setRow_heap w g cs.toArray (lay cs off xs).toArray e (0, 0) hdst
  unfold Blk
  simpa [lay] using this

theorem wpList_copy_vals {ops : Array Oper} {rest : List Oper} {o : Oper} {a : Act} {Q : Exit → Act → World → Prop} (hgd : o.guard = none) (e : TypeId) (d s : Operand) (dT sT : TypeId)
    (ho : o.op = .call { callee := .builtin .copy, args := #[d, s], argTypes := #[dT, sT] }) (hu : P.underlying dT = some (.slice e)) (hsz : (P.info? e).map (·.size) = some 1)
    (g off dLen dCap sLen sCap : Nat) (sp : Option Addr) (hd : a.eval d = .slice (some ⟨g, off, none⟩) dLen dCap) (hs : a.eval s = .slice sp sLen sCap)
    (xs : List Value) (hn : xs.length = Nat.min sLen dLen) (S : List Nat) (hsrc : Vals w S sp xs) (h1 : ∀ u ∈ xs, u.oneCell' = true) (h0 : 0 < xs.length)
    (cs : List Value) (hdst : Blk w g e cs.toArray) (hfit : off + xs.length ≤ cs.length)
    (h : ∀ w', Kept [g] w w' → Blk w' g e (lay cs off xs).toArray → wpList P ops Q rest (a.put o.dst (goInt xs.length)) w') :
    wpList P ops Q (o :: rest) a w :=
  wpList_plain hgd fun _ hK => wp_copy_vals e d s dT sT ho hu hsz g off dLen dCap sLen sCap sp hd hs xs hn S hsrc h1 h0 cs hdst hfit fun w' k b => hK _ _ (h w' k b)

/-- The same as a step of a region that draws its order. -/
theorem step_copy_vals {ops : Array Oper} {o : Oper} {a : Act} {K : Act → World → Prop} {Q : Exit → Act → World → Prop} {E : Prop} (hgd : o.guard = none) (e : TypeId) (d s : Operand) (dT sT : TypeId)
    (ho : o.op = .call { callee := .builtin .copy, args := #[d, s], argTypes := #[dT, sT] }) (hu : P.underlying dT = some (.slice e)) (hsz : (P.info? e).map (·.size) = some 1)
    (g off dLen dCap sLen sCap : Nat) (sp : Option Addr) (hd : a.eval d = .slice (some ⟨g, off, none⟩) dLen dCap) (hs : a.eval s = .slice sp sLen sCap)
    (xs : List Value) (hn : xs.length = Nat.min sLen dLen) (S : List Nat) (hsrc : Vals w S sp xs) (h1 : ∀ u ∈ xs, u.oneCell' = true) (h0 : 0 < xs.length)
    (cs : List Value) (hdst : Blk w g e cs.toArray) (hfit : off + xs.length ≤ cs.length)
    (h : ∀ w', Kept [g] w w' → Blk w' g e (lay cs off xs).toArray → K (a.put o.dst (goInt xs.length)) w') :
    if Region.wanted o (yielded ops a.tmps) = true then Oper.wp P o a w K Q else E := by
  have hw : Region.wanted o (yielded ops a.tmps) = true := by simp [Region.wanted, hgd]
  rw [if_pos hw]
  exact wp_copy_vals e d s dT sT ho hu hsz g off dLen dCap sLen sCap sp hd hs xs hn S hsrc h1 h0 cs hdst hfit h
end
end Go.Proofs.Ytfeepmahipecpaa.pd
