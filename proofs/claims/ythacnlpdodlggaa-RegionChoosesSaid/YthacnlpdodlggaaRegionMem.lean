/- Regions in memory: uses, the three slices, the numbers' cells; a Geom of a device. -/
import Derived.Test.YthacnlpdodlggaaRegionMath
import Derived.Test.YthacnlpdodlggaaGeomRef
import Derived.Test.YthacnlpdodlggaaFar
namespace Go.Proofs.Ythacnlpdodlggaa.rg
open Go.RowKit Go.Proofs.Ythacnlpdodlggaa.mem Go.Proofs.Ythacnlpdodlggaa.base Go.Proofs.Ythacnlpdodlggaa.row

def Us.vals (u : Us) : List Value := [.int .i64 u.s, .int .i64 u.t]
def Us.cells (u : Us) : Array Value := #[.int .i64 u.s, .int .i64 u.t]
def Us.val (u : Us) : Value := .agg #[.int .i64 u.s, .int .i64 u.t]
def usVals (l : List Us) : List Value := l.flatMap Us.vals
theorem usVals_append (a b : List Us) : usVals (a ++ b) = usVals a ++ usVals b := by simp [usVals]
theorem usVals_snoc (l : List Us) (u : Us) : usVals (l ++ [u]) = usVals l ++ u.vals := by simp [usVals]
theorem usVals_len (l : List Us) : (usVals l).length = 2 * l.length := by
  induction l with
  | nil => rfl
  | cons i l ih => unfold usVals at ih ⊢; rw [List.flatMap_cons, List.length_append, ih, List.length_cons]; simp [Us.vals]; omega
theorem usVals_at (l : List Us) (j : Nat) (i : Us) (h : l[j]? = some i) (t : Nat) (ht : t < 2) : (usVals l)[2 * j + t]? = i.vals[t]? := by
  obtain ⟨hj, rfl⟩ := List.getElem?_eq_some_iff.1 h
  have e : l = l.take j ++ ([l[j]] ++ l.drop (j + 1)) := by simp
  conv => lhs; rw [e, usVals_append, usVals_append]
  rw [List.getElem?_append_right (by rw [usVals_len, List.length_take]; omega), usVals_len, List.length_take, Nat.min_eq_left (by omega), Nat.add_sub_cancel_left,
    List.getElem?_append_left (by rw [usVals_len]; simp; omega)]
  simp [usVals]
theorem add_field (a : Addr) (n j : Nat) (h : 0 < j) : a.add (n + j) = ⟨(a.add n).block, (a.add n).off + j, none⟩ := by
  rw [add_pos a (n + j) (by omega)]
  by_cases hn : n = 0
  · subst hn
    simp [Addr.add]
  · rw [add_pos a n (by omega)]
    simp [Nat.add_assoc]
def UsAt (w : World) (q : Addr) (i : Us) : Prop := w.cell? q = some (.int .i64 i.s) ∧ w.cell? ⟨q.block, q.off + 1, none⟩ = some (.int .i64 i.t)
/-- A slice that reads these uses, none of its cells in blocks of S. -/
def Uses (w : World) (S : List Nat) (L : Option Addr) (l : List Us) : Prop := Vals w S L (usVals l)
theorem Uses.at_ {w : World} {S : List Nat} {L : Option Addr} {l : List Us} (h : Uses w S L l) {k : Nat} {i : Us} (hk : l[k]? = some i) : ∃ ad, L = some ad ∧ (ad.add (k * 2)).block ∉ S ∧ UsAt w (ad.add (k * 2)) i := by
  have e : ∀ t, t < 2 → ∀ v, i.vals[t]? = some v → ∃ ad, L = some ad ∧ ad.block ∉ S ∧ w.cell? (ad.add (k * 2 + t)) = some v := fun t ht v hv =>
    h (k * 2 + t) v (by rw [Nat.mul_comm k 2, usVals_at l k i hk t ht]; exact hv)
  obtain ⟨ad, rfl, hn, c0⟩ := e 0 (by omega) _ rfl
  obtain ⟨a1, h1, _, c1⟩ := e 1 (by omega) _ rfl
  cases h1
  refine ⟨ad, rfl, by rw [block_of_add]; exact hn, c0, ?_⟩
  rw [← add_field ad _ 1 (by omega)]; exact c1
theorem Uses.of {w : World} {S : List Nat} {L : Option Addr} {l : List Us} (h : ∀ (k : Nat) (i : Us), l[k]? = some i → ∃ ad, L = some ad ∧ ad.block ∉ S ∧ UsAt w (ad.add (k * 2)) i) : Uses w S L l := by
  intro n v hv
  have hn : n < 2 * l.length := by
    have := (List.getElem?_eq_some_iff.1 hv).1
    rwa [usVals_len] at this
  obtain ⟨k, t, rfl, ht⟩ : ∃ k t, n = 2 * k + t ∧ t < 2 := ⟨n / 2, n % 2, by omega, by omega⟩
  have hk : k < l.length := by omega
  obtain ⟨ad, rfl, hb, c0, c1⟩ := h k _ (List.getElem?_eq_getElem hk)
  rw [usVals_at l k _ (List.getElem?_eq_getElem hk) t ht] at hv
  refine ⟨ad, rfl, hb, ?_⟩
  rw [Nat.mul_comm]
  match t, ht, hv with
  | 0, _, hv => cases hv; exact c0
  | 1, _, hv => cases hv; rw [add_field ad _ 1 (by omega)]; exact c1
theorem Uses.kept {w w' : World} {S S' : List Nat} {L : Option Addr} {l : List Us} (h : Uses w S L l) (k : Kept S' w w') (hs : ∀ i ∈ S', i ∈ S) : Uses w' S L l := Vals.kept h k hs
theorem Uses.nil (w : World) (S : List Nat) (L : Option Addr) : Uses w S L [] := Vals.nil _ _ _

/-- The three slices of a region. -/
structure Sl where
  (A O U : Option Addr) (a ca o co u cu : Nat)
def Sl.small (X : Sl) : Prop := X.a ≤ 1000 ∧ X.o ≤ 1000 ∧ X.u ≤ 1000
def Sl.zero : Sl := ⟨none, none, none, 0, 0, 0, 0, 0, 0⟩
def Rg.cells (R : Rg) (X : Sl) : Array Value := #[.int .i64 R.g, .int .i64 R.v, .int .i64 R.m, .int .i64 R.e, .int .i64 R.q, .int .i64 R.d, .int .i64 R.s, .int .i64 R.o, .int .i64 R.l, .int .i64 R.p, .int .i64 R.k, .slice X.A X.a X.ca, .slice X.O X.o X.co, .slice X.U X.u X.cu]
def Rg.val (R : Rg) (X : Sl) : Value := .agg #[.int .i64 R.g, .int .i64 R.v, .int .i64 R.m, .int .i64 R.e, .int .i64 R.q, .int .i64 R.d, .int .i64 R.s, .int .i64 R.o, .int .i64 R.l, .int .i64 R.p, .int .i64 R.k, .slice X.A X.a X.ca, .slice X.O X.o X.co, .slice X.U X.u X.cu]
/-- What they read, none of it in blocks of S. -/
structure RgIn (w : World) (S : List Nat) (X : Sl) (R : Rg) : Prop where
  ha : R.bs.length = X.a
  ho : R.ov.length = X.o
  hu : R.us.length = X.u
  bs : Vals w S X.A (R.bs.map I)
  ov : Vals w S X.O (R.ov.map I)
  us : Uses w S X.U R.us
theorem RgIn.kept {w w' : World} {S S' : List Nat} {X : Sl} {R : Rg} (h : RgIn w S X R) (K : Kept S' w w') (hs : ∀ i ∈ S', i ∈ S) : RgIn w' S X R :=
  ⟨h.ha, h.ho, h.hu, h.bs.kept K hs, h.ov.kept K hs, h.us.kept K hs⟩
theorem RgIn.less {w : World} {S S' : List Nat} {X : Sl} {R : Rg} (h : RgIn w S X R) (hs : ∀ i ∈ S', i ∈ S) : RgIn w S' X R :=
  ⟨h.ha, h.ho, h.hu, h.bs.mono hs, h.ov.mono hs, Vals.mono h.us hs⟩
theorem RgIn.at_ {w : World} {S : List Nat} {X : Sl} {R : Rg} (h : RgIn w S X R) : RgIn w [] X R := h.less (by simp)
theorem RgIn.away {w : World} {S S' : List Nat} {X : Sl} {R : Rg} (h : RgIn w S X R) (hS : ∀ i ∈ S', i ∈ S ∨ w.heap.size ≤ i) : RgIn w S' X R :=
  ⟨h.ha, h.ho, h.hu, h.bs.away hS, h.ov.away hS, Vals.away h.us hS⟩
theorem RgIn.far {w w' : World} {S : List Nat} {X : Sl} {R : Rg} (h : RgIn w [] X R) (k : Kept [] w w') (hS : ∀ i ∈ S, w.heap.size ≤ i) : RgIn w' S X R :=
  ⟨h.ha, h.ho, h.hu, h.bs.far k hS, h.ov.far k hS, Vals.far h.us k hS⟩
theorem RgIn.zero (w : World) (S : List Nat) : RgIn w S Sl.zero Rg.zero := ⟨rfl, rfl, rfl, Vals.nil _ _ _, Vals.nil _ _ _, Vals.nil _ _ _⟩

/-- Its cells, one by one. -/
structure C14 (w : World) (g : Nat) (R : Rg) (X : Sl) : Prop where
  c0 : w.cell? ⟨g, 0, none⟩ = some (.int .i64 R.g)
  c1 : w.cell? ⟨g, 1, none⟩ = some (.int .i64 R.v)
  c2 : w.cell? ⟨g, 2, none⟩ = some (.int .i64 R.m)
  c3 : w.cell? ⟨g, 3, none⟩ = some (.int .i64 R.e)
  c4 : w.cell? ⟨g, 4, none⟩ = some (.int .i64 R.q)
  c5 : w.cell? ⟨g, 5, none⟩ = some (.int .i64 R.d)
  c6 : w.cell? ⟨g, 6, none⟩ = some (.int .i64 R.s)
  c7 : w.cell? ⟨g, 7, none⟩ = some (.int .i64 R.o)
  c8 : w.cell? ⟨g, 8, none⟩ = some (.int .i64 R.l)
  c9 : w.cell? ⟨g, 9, none⟩ = some (.int .i64 R.p)
  c10 : w.cell? ⟨g, 10, none⟩ = some (.int .i64 R.k)
  c11 : w.cell? ⟨g, 11, none⟩ = some (.slice X.A X.a X.ca)
  c12 : w.cell? ⟨g, 12, none⟩ = some (.slice X.O X.o X.co)
  c13 : w.cell? ⟨g, 13, none⟩ = some (.slice X.U X.u X.cu)
theorem cell14 {w : World} {g : Nat} {t : TypeId} {R : Rg} {X : Sl} (h : Blk w g t (R.cells X)) : C14 w g R X :=
  ⟨h.cell 0, h.cell 1, h.cell 2, h.cell 3, h.cell 4, h.cell 5, h.cell 6, h.cell 7, h.cell 8, h.cell 9, h.cell 10, h.cell 11, h.cell 12, h.cell 13⟩
theorem C14.drew {w : World} {g : Nat} {R : Rg} {X : Sl} (h : C14 w g R X) : C14 w.drew g R X :=
  ⟨h.c0, h.c1, h.c2, h.c3, h.c4, h.c5, h.c6, h.c7, h.c8, h.c9, h.c10, h.c11, h.c12, h.c13⟩
/-- All fourteen stored, one by one. -/
def put14 (w : World) (g : Nat) (R : Rg) (X : Sl) : World :=
  ((((((((((((((w.setCell ⟨g, 0, none⟩ (.int .i64 R.g)).setCell ⟨g, 1, none⟩ (.int .i64 R.v)).setCell ⟨g, 2, none⟩ (.int .i64 R.m)).setCell ⟨g, 3, none⟩ (.int .i64 R.e)).setCell ⟨g, 4, none⟩ (.int .i64 R.q)).setCell ⟨g, 5, none⟩ (.int .i64 R.d)).setCell ⟨g, 6, none⟩ (.int .i64 R.s)).setCell ⟨g, 7, none⟩ (.int .i64 R.o)).setCell ⟨g, 8, none⟩ (.int .i64 R.l)).setCell ⟨g, 9, none⟩ (.int .i64 R.p)).setCell ⟨g, 10, none⟩ (.int .i64 R.k)).setCell ⟨g, 11, none⟩ (.slice X.A X.a X.ca)).setCell ⟨g, 12, none⟩ (.slice X.O X.o X.co)).setCell ⟨g, 13, none⟩ (.slice X.U X.u X.cu))
theorem put14_at {w : World} {g : Nat} {t : TypeId} {T : Rg} {Y : Sl} (R : Rg) (X : Sl) (h : Blk w g t (T.cells Y)) : Blk (put14 w g R X) g t (R.cells X) := by
  have h1 := (((((((((((((h.set_ 0 (.int .i64 R.g)).set_ 1 (.int .i64 R.v)).set_ 2 (.int .i64 R.m)).set_ 3 (.int .i64 R.e)).set_ 4 (.int .i64 R.q)).set_ 5 (.int .i64 R.d)).set_ 6 (.int .i64 R.s)).set_ 7 (.int .i64 R.o)).set_ 8 (.int .i64 R.l)).set_ 9 (.int .i64 R.p)).set_ 10 (.int .i64 R.k)).set_ 11 (.slice X.A X.a X.ca)).set_ 12 (.slice X.O X.o X.co)).set_ 13 (.slice X.U X.u X.cu)
  simp only [Rg.cells, List.setIfInBounds_toArray, List.set_cons_zero, List.set_cons_succ] at h1
  exact h1
theorem put14_kept {v w : World} {g : Nat} {S : List Nat} (R : Rg) (X : Sl) (h : Kept S v w) (hg : g ∈ S ∨ v.heap.size ≤ g) : Kept S v (put14 w g R X) :=
  (((((((((((((h.set_ hg 0 _).set_ hg 1 _).set_ hg 2 _).set_ hg 3 _).set_ hg 4 _).set_ hg 5 _).set_ hg 6 _).set_ hg 7 _).set_ hg 8 _).set_ hg 9 _).set_ hg 10 _).set_ hg 11 _).set_ hg 12 _).set_ hg 13 _
theorem put14_eq (w : World) (g : Nat) (R : Rg) (X : Sl) :
  ((((((((((((((w.setCell ⟨g, 0, none⟩ (.int .i64 R.g)).setCell ⟨g, 1, none⟩ (.int .i64 R.v)).setCell ⟨g, 2, none⟩ (.int .i64 R.m)).setCell ⟨g, 3, none⟩ (.int .i64 R.e)).setCell ⟨g, 4, none⟩ (.int .i64 R.q)).setCell ⟨g, 5, none⟩ (.int .i64 R.d)).setCell ⟨g, 6, none⟩ (.int .i64 R.s)).setCell ⟨g, 7, none⟩ (.int .i64 R.o)).setCell ⟨g, 8, none⟩ (.int .i64 R.l)).setCell ⟨g, 9, none⟩ (.int .i64 R.p)).setCell ⟨g, 10, none⟩ (.int .i64 R.k)).setCell ⟨g, 11, none⟩ (.slice X.A X.a X.ca)).setCell ⟨g, 12, none⟩ (.slice X.O X.o X.co)).setCell ⟨g, 13, none⟩ (.slice X.U X.u X.cu)) = put14 w g R X := rfl

/-- A Geom of a device lies at p. -/
def GD (w : World) (p : Nat) (D : Dv) : Prop := geom.GAt w p D.b D.n D.z D.r D.y
theorem GD.kept {w w' : World} {p : Nat} {D : Dv} {S : List Nat} (h : GD w p D) (k : Kept S w w') (hp : p ∉ S := by simp) : GD w' p D := geom.GAt.kept h k hp
theorem GD.lt {w : World} {p : Nat} {D : Dv} (h : GD w p D) : p < w.heap.size := geom.GAt.lt h
theorem GD.dv {w : World} {p : Nat} {D : Dv} (h : GD w p D) : D.ok := ⟨h.ok.1, by have := h.ok.2.1; omega, h.ok.2.2, h.hr, h.hq⟩
theorem Dv.ok.rf {D : Dv} (h : D.ok) : geom.Rf D.b D.n D.z D.r D.y := ⟨⟨h.hb, by have := h.hn; omega, h.hz⟩, h.hr, h.hy⟩
theorem Dv.of {b s z : Int} (h : geom.Ok b s z) : ∃ D : Dv, D.ok ∧ D.b = b ∧ (D.n : Int) = s ∧ D.z = z := by
  obtain ⟨h1, h2, h3⟩ := h
  refine ⟨⟨b, s.toNat, z, ((106 + 5 * s) / 64).toNat, ((b + 14) / 15).toNat⟩, ⟨h1, ?_, h3, ?_, ?_⟩, rfl, ?_, rfl⟩ <;> dsimp only <;> omega
def Dv.cfg (D : Dv) : Value := .agg #[.int .i64 D.b, .int .i64 D.n, .int .i64 D.z]
theorem gnew (D : Dv) (h : D.ok) (w : World) :
    Calls Try.prog 23 #[.agg #[.int .i64 D.b, .int .i64 D.n, .int .i64 D.z]] w fun e w' => ∃ p, e = .returned (.tuple #[.pointer (some ⟨p, 0, none⟩), .int .i64 0]) ∧ GD w' p D ∧ w.heap.size ≤ p ∧ Kept [] w w' :=
  (geom.new_yes D.b D.n D.z w h.rf.ok).mono fun e w' ⟨p, r, q, he, hg, hp, hk⟩ => ⟨p, he, by
    have h1 := hg.hr
    have h2 := hg.hq
    have h3 := h.hr
    have h4 := h.hy
    obtain rfl : r = D.r := by omega
    obtain rfl : q = D.y := by omega
    exact hg, hp, hk⟩
theorem gcfg (p : Nat) (D : Dv) (w : World) (h : GD w p D) :
    Calls Try.prog 39 #[.pointer (some ⟨p, 0, none⟩)] w fun e w' => e = .returned (.agg #[.int .i64 D.b, .int .i64 D.n, .int .i64 D.z]) ∧ Kept [] w w' := geom.config_at p _ _ _ _ _ w h
theorem gpages (p : Nat) (D : Dv) (w : World) (h : GD w p D) :
    Calls Try.prog 41 #[.pointer (some ⟨p, 0, none⟩)] w fun e w' => e = .returned (.int .i64 D.y) ∧ Kept [] w w' := geom.pages_at p _ _ _ _ _ w h
theorem glen (p : Nat) (D : Dv) (w : World) (h : GD w p D) :
    Calls Try.prog 20 #[.pointer (some ⟨p, 0, none⟩)] w fun e w' => e = .returned (.int .i64 D.r) ∧ Kept [] w w' := geom.regionLen_at p _ _ _ _ _ w h
theorem cfg1 (b n z : Int) (w : World) : (Instr.field 31 (.agg #[.int .i64 b, .int .i64 n, .int .i64 z]) 1).run Try.prog w = .ok (.int .i64 n) w := by kernel_rfl
theorem rpag (D : Dv) (h : D.ok) (w : World) :
    Calls Try.prog 53 #[.agg #[.int .i64 D.b, .int .i64 D.n, .int .i64 D.z]] w fun e w' => e = .returned (.int .i64 D.y) ∧ Kept [] w w' := geom.rpages _ _ _ _ _ w h.rf
theorem rlen (D : Dv) (h : D.ok) (w : World) :
    Calls Try.prog 32 #[.agg #[.int .i64 D.b, .int .i64 D.n, .int .i64 D.z]] w fun e w' => e = .returned (.int .i64 D.r) ∧ Kept [] w w' := geom.rregionLen _ _ _ _ _ w h.rf
end Go.Proofs.Ythacnlpdodlggaa.rg
