import Derived.Test.YtolbalafhfpjbaaGreatPOpen
import Derived.Test.YtolbalafhfpjbaaGreatPGeomRef
import Derived.Test.YtolbalafhfpjbaaGreatPOwns
import Derived.Test.YtolbalafhfpjbaaGreatPFar
import Derived.StillTailTactics
namespace Go.Proofs.YtolbalafhfpjbaaGreat.us
set_option linter.unusedSimpArgs false
open Go.RowKit mem base geom
theorem flat_len {α : Type} (f : α → List Value) (m : Nat) (hf : ∀ a, (f a).length = m) (l : List α) : (l.flatMap f).length = m * l.length := by
 induction l with
 | nil => simp
 | cons a l ih => rw [List.flatMap_cons, List.length_append, ih, hf, List.length_cons, Nat.mul_add]; omega
theorem flat_get {α : Type} (f : α → List Value) (m : Nat) (hf : ∀ a, (f a).length = m) (l : List α) (i j : Nat) (hj : j < m) (a : α) (ha : l[i]? = some a) : (l.flatMap f)[i * m + j]? = (f a)[j]? := by
 induction l generalizing i with
 | nil => simp at ha
 | cons b l ih =>
  rw [List.flatMap_cons]
  cases i with
  | zero =>
   simp at ha
   subst ha
   rw [List.getElem?_append_left (by rw [hf]; omega)]
   simp
  | succ i =>
   rw [List.getElem?_append_right (by rw [hf, Nat.add_mul]; omega), hf, show (i + 1) * m + j - m = i * m + j by rw [Nat.add_mul]; omega]
   exact ih i (by simpa using ha)
theorem flat_set {α : Type} (f : α → List Value) (m : Nat) (hf : ∀ a, (f a).length = m) (l : List α) (i j : Nat) (hj : j < m) (a a' : α) (ha : l[i]? = some a) (v : Value) (hv : f a' = (f a).set j v) : (l.flatMap f).set (i * m + j) v = (l.set i a').flatMap f := by
 induction l generalizing i with
 | nil => simp at ha
 | cons b l ih =>
  cases i with
  | zero =>
   simp at ha
   subst ha
   rw [List.set_cons_zero, List.flatMap_cons, List.flatMap_cons, List.set_append, if_pos (by rw [hf]; omega), hv]
   simp
  | succ i =>
   rw [List.set_cons_succ, List.flatMap_cons, List.flatMap_cons, List.set_append, if_neg (by rw [hf, Nat.add_mul]; omega), hf, show (i + 1) * m + j - m = i * m + j by rw [Nat.add_mul]; omega, ih i (by simpa using ha)]
structure Rw where
 (s t n : Int)
deriving DecidableEq
def Rw.zero : Rw := ⟨0, 0, 0⟩
def Rw.good (r : Rw) : Prop := (0 ≤ r.s ∧ r.s ≤ 2) ∧ (0 ≤ r.t ∧ r.t ≤ 2147483647) ∧ (0 ≤ r.n ∧ r.n ≤ 2147483647)
def Rw.vals (r : Rw) : List Value := [.int .i64 r.s, .int .i64 r.t, .int .i64 r.n]
def Rw.use (r : Rw) : List Value := [.int .i64 r.s, .int .i64 r.t]
def Rw.live (r : Rw) : Value := .int .i64 r.n
theorem Rw.vals_len (r : Rw) : r.vals.length = 3 := rfl
theorem Rw.use_len (r : Rw) : r.use.length = 2 := rfl
def segsOf (rs : List Rw) : List Value := rs.flatMap Rw.vals
def usesOf (rs : List Rw) : List Value := rs.flatMap Rw.use
def livesOf (rs : List Rw) : List Value := rs.map Rw.live
def tabCells (b s l r q : Int) (V n : Nat) : Array Value :=
 #[.int .i64 b, .int .i64 s, .int .i64 l, .int .i64 0, .int .i64 2, .int .i64 1, .int .i64 2, .int .i64 2, .int .i64 r, .int .i64 (2 + 2 * r), .int .i64 (2 * q), .int .i64 1, .int .i64 (2 + 2 * r + 2 * q), .int .i64 (2 * q), .int .i64 1, .int .i64 (2 + 2 * r + 4 * q), .int .i64 s, .int .i64 l, .slice (some ⟨V, 0, none⟩) n n]
structure TAt (w : World) (p V : Nat) (b s l r q : Int) (rs : List Rw) : Prop where
 tab : Blk w p 248 (tabCells b s l r q V rs.length)
 seg : Blk w V 201 (segsOf rs).toArray
 ne : p ≠ V
 ok : Ok b s l
 hr : r = (106 + 5 * s) / 64
 hq : q = (b + 14) / 15
 len : (rs.length : Int) = s
 good : ∀ x ∈ rs, x.good
structure RAt (w : World) (p U L : Nat) (b s l r q : Int) (rs : List Rw) : Prop where
 tab : Blk w p 250 #[.int .i64 b, .int .i64 s, .int .i64 l, .slice (some ⟨U, 0, none⟩) rs.length rs.length, .slice (some ⟨L, 0, none⟩) rs.length rs.length]
 use : Blk w U 199 (usesOf rs).toArray
 liv : Blk w L 3 (livesOf rs).toArray
 pU : p ≠ U
 pL : p ≠ L
 UL : U ≠ L
 ok : Ok b s l
 hr : r = (106 + 5 * s) / 64
 hq : q = (b + 14) / 15
 len : (rs.length : Int) = s
 good : ∀ x ∈ rs, x.good

section
variable {w w' : World} {p V : Nat} {b s l r q : Int} {rs : List Rw}
theorem TAt.kept {S : List Nat} (h : TAt w p V b s l r q rs) (k : Kept S w w') (hp : p ∉ S) (hV : V ∉ S) : TAt w' p V b s l r q rs := { h with tab := k.blk h.tab hp, seg := k.blk h.seg hV }
theorem TAt.keep (h : TAt w p V b s l r q rs) (k : Kept [] w w') : TAt w' p V b s l r q rs := h.kept k (by simp) (by simp)
theorem TAt.c1 (h : TAt w p V b s l r q rs) : w.cell? ⟨p, 18, none⟩ = some (.slice (some ⟨V, 0, none⟩) rs.length rs.length) := h.tab.cell 18
theorem TAt.pl (h : TAt w p V b s l r q rs) : p < w.heap.size := h.tab.lt
theorem TAt.Vl (h : TAt w p V b s l r q rs) : V < w.heap.size := h.seg.lt
theorem TAt.cells (h : TAt w p V b s l r q rs) {i : Nat} {x : Rw} (hi : rs[i]? = some x) : w.cell? ⟨V, i * 3, none⟩ = some (.int .i64 x.s) ∧ w.cell? ⟨V, i * 3 + 1, none⟩ = some (.int .i64 x.t) ∧ w.cell? ⟨V, i * 3 + 2, none⟩ = some (.int .i64 x.n) := by
 have e : ∀ j, j < 3 → w.cell? ⟨V, i * 3 + j, none⟩ = x.vals[j]? := fun j hj => by
  rw [h.seg.cell, List.getElem?_toArray]
  exact flat_get Rw.vals 3 Rw.vals_len rs i j hj x hi
 exact ⟨e 0 (by omega), e 1 (by omega), e 2 (by omega)⟩
theorem TAt.bounds (h : TAt w p V b s l r q rs) : 8 ≤ rs.length ∧ rs.length ≤ 32 := by
 obtain ⟨_, h1, _⟩ := h.ok
 have := h.len
 omega
theorem TAt.at_good (h : TAt w p V b s l r q rs) {i : Nat} {x : Rw} (hi : rs[i]? = some x) : x.good := h.good x (List.mem_of_getElem? hi)
theorem good_set {rs : List Rw} (h : ∀ x ∈ rs, x.good) (i : Nat) {x : Rw} (hx : x.good) : ∀ y ∈ rs.set i x, y.good := fun y hy => by
 rcases List.mem_or_eq_of_mem_set hy with h1 | rfl
 ·exact h y h1
 ·exact hx
theorem TAt.put (h : TAt w p V b s l r q rs) {i : Nat} (j : Nat) (hj : j < 3) {x y : Rw} (hi : rs[i]? = some x) (hy : y.good) (v : Int) (hv : y.vals = x.vals.set j (.int .i64 v)) : TAt (w.setCell ⟨V, i * 3 + j, none⟩ (.int .i64 v)) p V b s l r q (rs.set i y) :=
 { h with
  tab := by rw [List.length_set]; exact h.tab.far_ h.ne _ _
  seg := by
   have := h.seg.set_ (i * 3 + j) (.int .i64 v)
   rw [List.setIfInBounds_toArray] at this
   unfold segsOf at this ⊢
   rwa [flat_set Rw.vals 3 Rw.vals_len rs i j hj x y hi _ hv] at this
  len := by rw [List.length_set]; exact h.len
  good := good_set h.good i hy }
end
section
variable {w w' : World} {p U L : Nat} {b s l r q : Int} {rs : List Rw}
theorem RAt.kept {S : List Nat} (h : RAt w p U L b s l r q rs) (k : Kept S w w') (hp : p ∉ S) (hU : U ∉ S) (hL : L ∉ S) : RAt w' p U L b s l r q rs := { h with tab := k.blk h.tab hp, use := k.blk h.use hU, liv := k.blk h.liv hL }
theorem RAt.keep (h : RAt w p U L b s l r q rs) (k : Kept [] w w') : RAt w' p U L b s l r q rs := h.kept k (by simp) (by simp) (by simp)
theorem RAt.c0 (h : RAt w p U L b s l r q rs) : w.cell? ⟨p, 0, none⟩ = some (.int .i64 b) ∧ w.cell? ⟨p, 1, none⟩ = some (.int .i64 s) ∧ w.cell? ⟨p, 2, none⟩ = some (.int .i64 l) := ⟨h.tab.cell 0, h.tab.cell 1, h.tab.cell 2⟩
theorem RAt.c1 (h : RAt w p U L b s l r q rs) : w.cell? ⟨p, 3, none⟩ = some (.slice (some ⟨U, 0, none⟩) rs.length rs.length) := h.tab.cell 3
theorem RAt.c2 (h : RAt w p U L b s l r q rs) : w.cell? ⟨p, 4, none⟩ = some (.slice (some ⟨L, 0, none⟩) rs.length rs.length) := h.tab.cell 4
theorem RAt.pl (h : RAt w p U L b s l r q rs) : p < w.heap.size := h.tab.lt
theorem RAt.rf (h : RAt w p U L b s l r q rs) : Rf b s l r q := ⟨h.ok, h.hr, h.hq⟩
theorem RAt.uses (h : RAt w p U L b s l r q rs) {i : Nat} {x : Rw} (hi : rs[i]? = some x) : w.cell? ⟨U, i * 2, none⟩ = some (.int .i64 x.s) ∧ w.cell? ⟨U, i * 2 + 1, none⟩ = some (.int .i64 x.t) := by
 have e : ∀ j, j < 2 → w.cell? ⟨U, i * 2 + j, none⟩ = x.use[j]? := fun j hj => by
  rw [h.use.cell, List.getElem?_toArray]
  exact flat_get Rw.use 2 Rw.use_len rs i j hj x hi
 exact ⟨e 0 (by omega), e 1 (by omega)⟩
theorem RAt.live (h : RAt w p U L b s l r q rs) {i : Nat} {x : Rw} (hi : rs[i]? = some x) : w.cell? ⟨L, i, none⟩ = some (.int .i64 x.n) := by
 rw [h.liv.cell, List.getElem?_toArray]
 unfold livesOf
 rw [List.getElem?_map, hi]
 rfl
theorem RAt.bounds (h : RAt w p U L b s l r q rs) : 8 ≤ rs.length ∧ rs.length ≤ 32 := by
 obtain ⟨_, h1, _⟩ := h.ok
 have := h.len
 omega
theorem RAt.at_good (h : RAt w p U L b s l r q rs) {i : Nat} {x : Rw} (hi : rs[i]? = some x) : x.good := h.good x (List.mem_of_getElem? hi)
theorem set_same {α : Type} (f : Rw → α) (rs : List Rw) {i : Nat} {x y : Rw} (hi : rs[i]? = some x) (h : f y = f x) : (rs.set i y).map f = rs.map f := by
 apply List.ext_getElem?
 intro k
 rw [List.getElem?_map, List.getElem?_map, List.getElem?_set]
 split
 ·rename_i e
  subst e
  split
  ·rw [hi]
   simp [h]
  ·rename_i hn
   rw [List.getElem?_eq_none (by omega)] at hi
   cases hi
 ·rfl
theorem flat_map (f : Rw → List Value) (rs : List Rw) : rs.flatMap f = (rs.map f).flatten := by rw [List.flatMap_def]
theorem RAt.put (h : RAt w p U L b s l r q rs) {i : Nat} (j : Nat) (hj : j < 2) {x y : Rw} (hi : rs[i]? = some x) (hy : y.good) (v : Int) (hv : y.use = x.use.set j (.int .i64 v)) (hn : y.n = x.n) : RAt (w.setCell ⟨U, i * 2 + j, none⟩ (.int .i64 v)) p U L b s l r q (rs.set i y) :=
 { h with
  tab := by rw [List.length_set]; exact h.tab.far_ h.pU _ _
  use := by
   have := h.use.set_ (i * 2 + j) (.int .i64 v)
   rw [List.setIfInBounds_toArray] at this
   unfold usesOf at this ⊢
   rwa [flat_set Rw.use 2 Rw.use_len rs i j hj x y hi _ hv] at this
  liv := by
   have := h.liv.far_ (Ne.symm h.UL) (i * 2 + j) (.int .i64 v)
   unfold livesOf at this ⊢
   rwa [set_same Rw.live rs hi (by unfold Rw.live; rw [hn])]
  len := by rw [List.length_set]; exact h.len
  good := good_set h.good i hy }
theorem RAt.puts (h : RAt w p U L b s l r q rs) {i : Nat} {x y : Rw} (hi : rs[i]? = some x) (hy : y.good) (hv : y.use = x.use) : RAt (w.setCell ⟨L, i, none⟩ (.int .i64 y.n)) p U L b s l r q (rs.set i y) :=
 { h with
  tab := by rw [List.length_set]; exact h.tab.far_ h.pL _ _
  use := by
   have := h.use.far_ h.UL i (.int .i64 y.n)
   unfold usesOf at this ⊢
   rwa [flat_map, set_same Rw.use rs hi hv, ← flat_map]
  liv := by
   have := h.liv.set_ i (.int .i64 y.n)
   rw [List.setIfInBounds_toArray] at this
   unfold livesOf at this ⊢
   rwa [List.map_set]
  len := by rw [List.length_set]; exact h.len
  good := good_set h.good i hy }
end
structure GC (w : World) (p : Nat) (b s l r q : Int) : Prop where
 c : ∀ (k : Nat) (v : Value), (cellsOf b s l r q 0 2 (2 + 2 * r) (2 + 2 * r + 2 * q) (2 + 2 * r + 4 * q))[k]? = some v → w.cell? ⟨p, k, none⟩ = some v
 ok : Ok b s l
 hr : r = (106 + 5 * s) / 64
 hq : q = (b + 14) / 15
section
variable {w w' : World} {p : Nat} {b s l r q : Int}
theorem GC.kept {S : List Nat} (h : GC w p b s l r q) (k : Kept S w w') (hp : p ∉ S := by simp) : GC w' p b s l r q := { h with c := fun i v hv => k.cell (h.c i v hv) hp }
theorem GC.bounds (h : GC w p b s l r q) : 2 ≤ r ∧ r ≤ 4 ∧ 1 ≤ q ∧ q ≤ 5 := bounds_of h.ok h.hr h.hq
theorem GC.of (h : GAt w p b s l r q) : GC w p b s l r q := ⟨fun k v hv => by rw [h.blk.cell]; exact hv, h.ok, h.hr, h.hq⟩
end
end Go.Proofs.YtolbalafhfpjbaaGreat.us
