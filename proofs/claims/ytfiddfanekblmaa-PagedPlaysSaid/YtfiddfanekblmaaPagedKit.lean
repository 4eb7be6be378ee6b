/- What the statements about package paged share. -/
import Derived.Test.YtfiddfanekblmaaPagedAwake
import Derived.Test.YtfiddfanekblmaaSlabs
import Derived.Test.YtfiddfanekblmaaOwns
namespace Go.Proofs.Ytfiddfanekblmaa.pd
set_option linter.unusedSimpArgs false
open Go.RowKit Go.Proofs.Ytfiddfanekblmaa.mem Go.Proofs.Ytfiddfanekblmaa.base Go.Proofs.Ytfiddfanekblmaa.owns

/-- Pairs that came in. -/
theorem slab_pair {w : World} {A : Option Addr} {l : List (List Int)} (h : Slab w 2 A l) {i : Nat} (hi : i < l.length) : ∃ (a : Addr) (x y : Int), A = some a ∧ l[i]? = some [x, y] ∧ w.cell? (a.add (i * 2)) = some (.int .i64 x) ∧ w.cell? (a.add (i * 2 + 1)) = some (.int .i64 y) := by
  obtain ⟨xs, hx⟩ : ∃ xs, l[i]? = some xs := ⟨_, List.getElem?_eq_getElem hi⟩
  obtain ⟨hl, a, rfl, hc⟩ := h i xs hx
  match xs, hl with
  | [x, y], _ => exact ⟨a, x, y, rfl, hx, hc 0 x rfl, hc 1 y rfl⟩
theorem Slab.kept {w w' : World} {n : Nat} {A : Option Addr} {l : List (List Int)} (h : Slab w n A l) (k : Kept [] w w') : Slab w' n A l := fun i xs hx => by
  obtain ⟨hl, a, rfl, hc⟩ := h i xs hx
  exact ⟨hl, a, rfl, fun j y hy => k.cell (hc j y hy) (by simp)⟩
theorem add_next (a : Addr) (n : Nat) : a.add (n + 1) = ⟨(a.add n).block, (a.add n).off + 1, none⟩ := by
  rw [add_pos a (n + 1) (by omega)]
  by_cases hn : n = 0
  · subst hn
    simp [Addr.add]
  · rw [add_pos a n (by omega)]
    simp [Nat.add_assoc]

/-- A row of the call's own, one of its values turned. -/
theorem own_set {w : World} {base : Nat} {e : TypeId} {g n cap : Nat} {xs : List Value} (h : w.ownsRow base e 1 (.slice (some ⟨g, 0, none⟩) n cap) n xs) (i : Nat) (v : Value) : (w.setCell ⟨g, i, none⟩ v).ownsRow base e 1 (.slice (some ⟨g, 0, none⟩) n cap) n (xs.set i v) := by
  refine ⟨by rw [List.length_set]; exact h.1, ?_⟩
  rcases h.2 with ⟨hn, _⟩ | ⟨g', cap', cur, he, hb, hh, hn, hm, hs, ht⟩
  · cases hn
  · cases he
    refine .inr ⟨g, cap, cur.setIfInBounds i v, rfl, hb, ?_, hn, hm, by simpa using hs, ?_⟩
    · exact (show Blk w g e cur from hh).set_ i v
    · rw [Array.toList_setIfInBounds, ← ht, List.take_set]
theorem own_cell {w : World} {base : Nat} {e : TypeId} {g n cap : Nat} {xs : List Value} (h : w.ownsRow base e 1 (.slice (some ⟨g, 0, none⟩) n cap) n xs) {i : Nat} {v : Value} (hi : xs[i]? = some v) : w.cell? ⟨g, i, none⟩ = some v ∧ w.frozen? ⟨g, i, none⟩ = false := by
  rcases h.2 with ⟨hn, _⟩ | ⟨g', cap', cur, he, hb, hh, hn, hm, hs, ht⟩
  · cases hn
  · cases he
    have hin : i < n := by have := (List.getElem?_eq_some_iff.1 hi).1; have := h.1; omega
    refine ⟨?_, (show Blk w g e cur from hh).frozen i⟩
    rw [(show Blk w g e cur from hh).cell]
    rw [← ht, List.getElem?_take_of_lt (by omega)] at hi
    simpa using hi

theorem held_pair {a W W' : World} {S : List Nat} {p q : Addr} {u v : Value} (h : Kept S a W ∧ W.cell? p = some u ∧ W.cell? q = some v) (k : Kept S W W') (hp : p.block ∉ S) (hq : q.block ∉ S) : Kept S a W' ∧ W'.cell? p = some u ∧ W'.cell? q = some v :=
  ⟨h.1.trans k (fun _ hi => .inl hi), k.cell h.2.1 hp, k.cell h.2.2 hq⟩

theorem ownsRow_nil_ (w : World) (base : Nat) (e : TypeId) : w.ownsRow base e 1 (.slice none 0 0) 0 [] := ⟨rfl, .inl ⟨rfl, rfl⟩⟩

/-- dirty, its length said. -/
theorem dirty_len (p V D per : Nat) (vs : List Int) (ds : List Bool) (most : Int) (w : World) (hP : Pint w p V D per (vs.map I) ds) (L : List Int) (n : Nat) (hL : (markedInt ds ds.length).take most.toNat = L) (hn : L.length = n) :
    Calls Try.prog 18 #[.pointer (some ⟨p, 0, none⟩), .int .i64 most] w fun e w' => ∃ A c, e = .returned (.slice A n c) ∧ Vals w' [] A (L.map I) ∧ Kept [] w w' := by
  subst hn
  exact dirty_at _ ds hP.m2 most w (.inr ⟨p, V, D, per, _, rfl, hP⟩) L hL
theorem held_vals {a W W' : World} {A : Option Addr} {vs : List Value} (h : Kept [] a W ∧ Vals W [] A vs) (k : Kept [] W W') : Kept [] a W' ∧ Vals W' [] A vs := ⟨h.1.trans k (by simp), h.2.kept k (by simp)⟩

/-- What came in lies below. -/
theorem slab_low {w : World} {A : Option Addr} {l : List (List Int)} (h : Slab w 2 A l) {i : Nat} (hi : i < l.length) {a : Addr} (ha : A = some a) : (a.add (i * 2)).block < w.heap.size := by
  obtain ⟨b, x, y, hb, _, h0, _⟩ := slab_pair h hi
  rw [ha] at hb
  cases hb
  exact block_lt_of_cell h0

section
variable {w : World} {p V D per : Nat} {l : List Int} {ds : List Bool}
theorem pint_len (h : Pint w p V D per (l.map I) ds) : ds.length = (l.length + per - 1) / per := by have := h.pages; rwa [List.length_map] at this
/-- The pages hold all. -/
theorem pint_all (h : Pint w p V D per (l.map I) ds) : l.length ≤ ds.length * per := by
  have h1 := pint_len h
  have h2 := h.p1
  rw [h1]
  have h3 := Nat.div_add_mod (l.length + per - 1) per
  have h4 := Nat.mod_lt (l.length + per - 1) h2
  rw [Nat.mul_comm]
  omega
end
end Go.Proofs.Ytfiddfanekblmaa.pd
