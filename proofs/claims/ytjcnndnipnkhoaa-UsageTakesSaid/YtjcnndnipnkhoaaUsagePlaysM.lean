/- What the statement UsagePlays steps through. -/
import Derived.Test.YtjcnndnipnkhoaaUsageAwakes
import Derived.Test.YtjcnndnipnkhoaaUsageSame
import Derived.Test.YtjcnndnipnkhoaaUsageRefE
import Derived.Test.YtjcnndnipnkhoaaUsageNew
import Derived.Test.YtjcnndnipnkhoaaSlabWf
import Derived.Deep.CutRange
import Derived.Deep.CutBlock
namespace Go.Proofs.Ytjcnndnipnkhoaa.us
set_option linter.unusedSimpArgs false
open Go.RowKit Go.Proofs.Ytjcnndnipnkhoaa.mem Go.Proofs.Ytjcnndnipnkhoaa.base Go.Proofs.Ytjcnndnipnkhoaa.geom

/-- Uses that came in. -/
def ofSlab (l : List (List Int)) : List Rw := l.map fun xs => ⟨xs.getD 0 0, xs.getD 1 0, 0⟩
theorem ofSlab_len (l : List (List Int)) : (ofSlab l).length = l.length := by simp [ofSlab]
theorem ofSlab_plain (l : List (List Int)) : plain (ofSlab l) := by
  intro x hx
  simp only [ofSlab, List.mem_map] at hx
  obtain ⟨_, _, rfl⟩ := hx
  rfl
theorem slab_uses {w : World} {A : Option Addr} {l : List (List Int)} (h : Slab w 2 A l) : Vals w [] A (usesOf (ofSlab l)) := by
  intro n v hv
  have hn : n < 2 * l.length := by
    have := (List.getElem?_eq_some_iff.1 hv).1
    rwa [usesOf_len, ofSlab_len] at this
  obtain ⟨k, j, rfl, hj⟩ : ∃ k j, n = k * 2 + j ∧ j < 2 := ⟨n / 2, n % 2, by omega, by omega⟩
  have hk : k < l.length := by omega
  obtain ⟨xs, hx⟩ : ∃ xs, l[k]? = some xs := ⟨_, List.getElem?_eq_getElem hk⟩
  obtain ⟨hl, a, rfl, hc⟩ := h k xs hx
  have hx2 : (ofSlab l)[k]? = some ⟨xs.getD 0 0, xs.getD 1 0, 0⟩ := by simp [ofSlab, hx]
  unfold usesOf at hv
  rw [flat_get Rw.use 2 Rw.use_len (ofSlab l) k j hj _ hx2] at hv
  refine ⟨a, rfl, by simp, ?_⟩
  match xs, hl, j, hj, hv with
  | [x, y], _, 0, _, hv => cases hv; exact hc 0 x rfl
  | [x, y], _, 1, _, hv => cases hv; exact hc 1 y rfl
/-- Acts that came in. -/
theorem slab_act {w : World} {A : Option Addr} {l : List (List Int)} (h : Slab w 3 A l) {i : Nat} (hi : i < l.length) : ∃ (a : Addr) (x y z : Int), A = some a ∧ l[i]? = some [x, y, z] ∧ w.cell? (a.add (i * 3)) = some (.int .i64 x) ∧ w.cell? ⟨(a.add (i * 3)).block, (a.add (i * 3)).off + 1, none⟩ = some (.int .i64 y) ∧ w.cell? ⟨(a.add (i * 3)).block, (a.add (i * 3)).off + 2, none⟩ = some (.int .i64 z) := by
  obtain ⟨xs, hx⟩ : ∃ xs, l[i]? = some xs := ⟨_, List.getElem?_eq_getElem hi⟩
  obtain ⟨hl, a, rfl, hc⟩ := h i xs hx
  match xs, hl with
  | [x, y, z], _ => exact ⟨a, x, y, z, rfl, hx, hc 0 x rfl, by rw [← add_next]; exact hc 1 y rfl, by
      have := hc 2 z rfl
      rw [show i * 3 + 2 = (i * 3 + 1) + 1 by omega, add_next, add_next] at this
      exact this⟩
theorem Slab.kept {w w' : World} {n : Nat} {A : Option Addr} {l : List (List Int)} (h : Slab w n A l) (k : Kept [] w w') : Slab w' n A l := fun i xs hx => by
  obtain ⟨hl, a, rfl, hc⟩ := h i xs hx
  exact ⟨hl, a, rfl, fun j y hy => k.cell (hc j y hy) (by simp)⟩

theorem wf_i64 {y : Int} (h : (Lit.int .i64 y).wf = true) : -9223372036854775808 ≤ y ∧ y ≤ 9223372036854775807 := by
  have h1 : IntKind.i64.min = -9223372036854775808 := rfl
  have h2 : IntKind.i64.max = 9223372036854775807 := rfl
  simp [Lit.wf] at h
  omega
/-- Both tables, alike, apart, newer than a. -/
structure Both (a w : World) (p V p2 U L : Nat) (b s l r q : Int) (rs : List Rw) : Prop where
  t : TAt w p V b s l r q rs
  m : RAt w p2 U L b s l r q rs
  pU : p ≠ U
  pL : p ≠ L
  VU : V ≠ U
  VL : V ≠ L
  Vp : V ≠ p2
  nV : a.heap.size ≤ V
  nU : a.heap.size ≤ U
  nL : a.heap.size ≤ L
section
variable {a w w' : World} {p V p2 U L : Nat} {b s l r q : Int} {rs rs' : List Rw}
theorem Both.keep (h : Both a w p V p2 U L b s l r q rs) (k : Kept [] w w') : Both a w' p V p2 U L b s l r q rs := { h with t := h.t.keep k, m := h.m.keep k }
/-- The program's table has turned, then the reference's. -/
theorem Both.turn {w1 w2 : World} {S : List Nat} (h : Both a w p V p2 U L b s l r q rs) (t1 : TAt w1 p V b s l r q rs') (k2 : Kept S w1 w2) (hS : ∀ i ∈ S, i = U ∨ i = L) (m2 : RAt w2 p2 U L b s l r q rs') : Both a w2 p V p2 U L b s l r q rs' :=
  { h with
    t := t1.kept k2 (fun hm => by have h1 := h.pU; have h2 := h.pL; rcases hS _ hm with e | e <;> omega) (fun hm => by have h1 := h.VU; have h2 := h.VL; rcases hS _ hm with e | e <;> omega)
    m := m2 }
theorem Both.ref (h : Both a w p V p2 U L b s l r q rs) (k1 : Kept [V] w w') : RAt w' p2 U L b s l r q rs := h.m.kept k1 (by have := h.Vp; simp; omega) (by have := h.VU; simp; omega) (by have := h.VL; simp; omega)
end

/-- What New answers to uses that came in: a table, or none. -/
def NewAns (a w : World) (b s l r q : Int) (n : Nat) (us : List Rw) (P : Option Addr) : Prop :=
  (∃ p V rs, P = some ⟨p, 0, none⟩ ∧ a.heap.size ≤ p ∧ a.heap.size ≤ V ∧ TAt w p V b s l r q rs ∧ ((n = 0 ∧ rs = List.replicate s.toNat Rw.zero) ∨ (0 < n ∧ (n : Int) = s ∧ allMay us ∧ rs = us))) ∨
  (P = none ∧ 0 < n ∧ ((n : Int) ≠ s ∨ ¬ allMay us))
theorem new_cases (p : Nat) (b s l r q : Int) (A : Option Addr) (n c : Nat) (us : List Rw) (w : World) (h : GAt w p b s l r q) (hv : Vals w [] A (usesOf us)) (hl : us.length = n) (hp : plain us) :
    Calls Try.prog 10 #[.pointer (some ⟨p, 0, none⟩), .slice A n c] w fun e w' => ∃ P, e = .returned (.pointer P) ∧ NewAns w w' b s l r q n us P ∧ Kept [] w w' := by
  rcases Nat.eq_zero_or_pos n with h0 | h0
  · subst h0
    exact (new_none p b s l r q A c w h).mono fun e w' ⟨p', V, he, h1, h2, ht, hk⟩ => ⟨_, he, .inl ⟨p', V, _, rfl, h1, h2, ht, .inl ⟨rfl, rfl⟩⟩, hk⟩
  · by_cases hn : (n : Int) = s
    · refine (new_given p b s l r q A n c us w h hv hl hn hp).mono fun e w' hh => ?_
      rcases hh with ⟨hm, p', V, he, h1, h2, ht, hk⟩ | ⟨hm, he, hk⟩
      · exact ⟨_, he, .inl ⟨p', V, us, rfl, h1, h2, ht, .inr ⟨h0, hn, hm, rfl⟩⟩, hk⟩
      · exact ⟨none, he, .inr ⟨rfl, h0, .inr hm⟩, hk⟩
    · exact (new_len p b s l r q A n c w h h0 hn).mono fun e w' ⟨he, hk⟩ => ⟨none, he, .inr ⟨rfl, h0, .inl hn⟩, hk⟩

/-- What Take tells. -/
def tookOf (z : Int) : Int := if 0 ≤ z then z else 0
theorem take_any {w : World} {p V : Nat} {b s l r q : Int} {rs : List Rw} (h : TAt w p V b s l r q rs) (spare : Bool) :
    Calls Try.prog 17 #[.pointer (some ⟨p, 0, none⟩), .bool spare] w fun e w' => e = .returned (.tuple #[.int .i64 (tookOf (nextOf rs spare)), .bool (decide (0 ≤ nextOf rs spare))]) ∧ TAt w' p V b s l r q (grabOf rs (nextOf rs spare)) ∧ Kept [V] w w' := by
  by_cases hn : ((inState rs 0 rs.length).length : Int) ≤ backOf spare
  · have e1 : nextOf rs spare = -1 := if_pos hn
    rw [e1]
    refine (take_no h spare hn).mono fun e w' ⟨he, hk⟩ => ⟨he, ?_, hk.mono (by simp)⟩
    rw [show grabOf rs (-1) = rs from upd_no (by omega) _]
    exact h.keep hk
  · cases hL : inState rs 0 rs.length with
    | nil =>
      rw [hL] at hn
      exact absurd (by cases spare <;> simp [backOf]) hn
    | cons x L0 =>
      have e1 : nextOf rs spare = x := by
        unfold nextOf
        rw [if_neg hn, hL]
        rfl
      have hx : 0 ≤ x := by
        obtain ⟨i, rfl, _, _⟩ := inState_mem (rs := rs) (st := 0) (k := rs.length) (y := x) (by rw [hL]; simp)
        omega
      rw [e1, decide_eq_true hx, show tookOf x = x from if_pos hx]
      exact take_yes h spare x L0 hL (by rw [hL] at hn; omega)
theorem take_ex {w : World} {p V : Nat} {b s l r q : Int} {rs : List Rw} (h : TAt w p V b s l r q rs) (spare : Bool) :
    Calls Try.prog 17 #[.pointer (some ⟨p, 0, none⟩), .bool spare] w fun e w' => ∃ z, z = nextOf rs spare ∧ e = .returned (.tuple #[.int .i64 (tookOf z), .bool (decide (0 ≤ z))]) ∧ TAt w' p V b s l r q (grabOf rs z) ∧ Kept [V] w w' :=
  (take_any h spare).mono fun _ _ hh => ⟨_, rfl, hh⟩
theorem next_ge (rs : List Rw) (spare : Bool) : -1 ≤ nextOf rs spare := by
  unfold nextOf
  split
  · omega
  · cases hL : inState rs 0 rs.length with
    | nil => simp
    | cons x L0 =>
      obtain ⟨i, rfl, _, _⟩ := inState_mem (rs := rs) (st := 0) (k := rs.length) (y := x) (by rw [hL]; simp)
      simp
end Go.Proofs.Ytjcnndnipnkhoaa.us
