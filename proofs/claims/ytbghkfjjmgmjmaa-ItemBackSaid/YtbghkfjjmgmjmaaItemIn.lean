/- Quadruples that came in; an item of a grown slice is put. -/
import Derived.Test.YtbghkfjjmgmjmaaItemMade
import Derived.Test.YtbghkfjjmgmjmaaItemAwake
import Derived.Test.YtbghkfjjmgmjmaaItemOf
import Derived.Test.YtbghkfjjmgmjmaaSlabs
import Derived.Test.YtbghkfjjmgmjmaaShapes
namespace Go.Proofs.Ytbghkfjjmgmjmaa.item
open Go.RowKit Go.Proofs.Ytbghkfjjmgmjmaa.mem Go.Proofs.Ytbghkfjjmgmjmaa.base

theorem items_of {w : World} {A : Option Addr} {l : List (List Int)} (h : Slab w 4 A l) : ∃ its : List It, its.length = l.length ∧ Items w [] A its := by
  refine ⟨l.map (fun xs => ⟨xs.getD 0 0, xs.getD 1 0, xs.getD 2 0, xs.getD 3 0⟩), by simp, Items.of fun k i hi => ?_⟩
  rw [List.getElem?_map] at hi
  obtain ⟨xs, hx, rfl⟩ := Option.map_eq_some_iff.1 hi
  obtain ⟨h4, a, rfl, hc⟩ := h k xs hx
  obtain ⟨x0, x1, x2, x3, rfl⟩ := list4 h4
  refine ⟨a, rfl, by simp, hc 0 x0 rfl, ?_, ?_, ?_⟩
  · rw [← add_field a _ 1 (by omega)]; exact hc 1 x1 rfl
  · rw [← add_field a _ 2 (by omega)]; exact hc 2 x2 rfl
  · rw [← add_field a _ 3 (by omega)]; exact hc 3 x3 rfl

theorem allMay_made (l : List It) : allMay (l.map madeOf) := by
  intro i hi
  obtain ⟨x, _, rfl⟩ := List.mem_map.1 hi
  exact madeOf_may x

/-- What a store of an item into a grown slice needs, and leaves. -/
theorem Own.put {w : World} {base : Nat} {v : Value} {l : List It} (h : Own w base v l) (k : Nat) (hk : k < l.length) :
    ∃ g c z, v = .slice (some ⟨g, 0, none⟩) l.length c ∧ base ≤ g ∧ (∀ t, w.frozen? ⟨g, k * 4 + t, none⟩ = false) ∧ ItAt w ⟨g, k * 4, none⟩ z ∧
      ∀ i : It, Own ((((w.setCell ⟨g, k * 4, none⟩ (.int .i64 i.k)).setCell ⟨g, k * 4 + 1, none⟩ (.int .i64 i.b)).setCell ⟨g, k * 4 + 2, none⟩ (.int .i64 i.c)).setCell ⟨g, k * 4 + 3, none⟩ (.int .i64 i.v)) base v (l.set k i) := by
  rcases h.2 with ⟨_, h0⟩ | ⟨g, cap, cur, rfl, hb, hh, hn, hm, hs, ht⟩
  · omega
  · have hB : Blk w g 26 cur := hh
    have hcell : ∀ t, t < 4 → w.cell? ⟨g, k * 4 + t, none⟩ = (l[k]).vals[t]? := fun t ht4 => by
      have e := valsOf_at l k l[k] (List.getElem?_eq_getElem hk) t ht4
      rw [← ht, List.getElem?_take_of_lt (by omega)] at e
      rw [hB.cell, Nat.mul_comm k 4, ← e]
      simp
    refine ⟨g, cap, l[k], rfl, hb, fun t => hB.frozen _, ⟨hcell 0 (by omega), hcell 1 (by omega), hcell 2 (by omega), hcell 3 (by omega)⟩, fun i => ?_⟩
    have h1 := (((hB.set_ (k * 4) (.int .i64 i.k)).set_ (k * 4 + 1) (.int .i64 i.b)).set_ (k * 4 + 2) (.int .i64 i.c)).set_ (k * 4 + 3) (.int .i64 i.v)
    refine ⟨by rw [valsOf_len, List.length_set]; omega, .inr ⟨g, cap, _, by rw [List.length_set], hb, h1, by rw [List.length_set]; exact hn, hm, by simpa using hs, ?_⟩⟩
    rw [List.length_set, ← valsOf_set l k i hk, ← ht]
    simp only [Array.toList_setIfInBounds, List.take_set]
theorem Own.any {w : World} {base : Nat} {v : Value} {l : List It} {n : Nat} (h : Own w base v l) (hn : l.length = n) : w.ownsRow base 26 4 v n (valsOf l) := by
  subst hn
  exact h
theorem Own.more {w' : World} {base : Nat} {v : Value} {l : List It} {i : It} {n : Nat} (h : w'.ownsRow base 26 4 v (n + 1) (valsOf l ++ i.vals)) (hn : l.length = n) : Own w' base v (l ++ [i]) := by
  subst hn
  exact Own.snoc h
end Go.Proofs.Ytbghkfjjmgmjmaa.item
