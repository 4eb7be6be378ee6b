import Derived.Test.YtolbalafhfpjbaaGreatPItemCore
import Derived.Test.YtolbalafhfpjbaaGreatPRefCore
namespace Go.Proofs.YtolbalafhfpjbaaGreat.item
open Go.RowKit mem base row rowBack fill ref
def Own (w : World) (base : Nat) (v : Value) (l : List It) : Prop := w.ownsRow base 84 4 v l.length (valsOf l)
theorem Own.nil (w : World) (base : Nat) : Own w base (.slice none 0 0) [] := World.ownsRow_nil _ _ _ _
theorem Own.kept {w w' : World} {base : Nat} {v : Value} {l : List It} {S : List Nat} (h : Own w base v l) (k : Kept S w w') (hs : ∀ i ∈ S, i < base ∨ w.heap.size ≤ i) : Own w' base v l := by
 refine ⟨h.1, ?_⟩
 rcases h.2 with hn | ⟨g, cap, cur, hv, hb, hg, rest⟩
 ·exact .inl hn
 ·have hlt := Blk.lt (show Blk w g 84 cur from hg)
  exact .inr ⟨g, cap, cur, hv, hb, k.blk (show Blk w g 84 cur from hg) (fun hm => by have := hs g hm; omega), rest⟩
theorem Own.slice {w : World} {base : Nat} {v : Value} {l : List It} (h : Own w base v l) : ∃ A c, v = .slice A l.length c ∧ l.length ≤ c ∧ (A = none → c = 0) ∧ (∀ S : List Nat, (∀ i ∈ S, i < base ∨ w.heap.size ≤ i) → Items w S A l) ∧ (∀ g, v.ownBlock = some g → base ≤ g) := by
 rcases h.2 with ⟨rfl, h0⟩ | ⟨g, cap, cur, rfl, hb, hh, hn, hm, hs, ht⟩
 ·have e : l = [] := List.eq_nil_of_length_eq_zero h0
  subst e
  exact ⟨none, 0, rfl, Nat.le_refl _, fun _ => rfl, fun S _ => Items.nil _ _ _, by simp [Value.ownBlock]⟩
 ·refine ⟨_, _, rfl, hn, by simp, fun S hS => ?_, by simp [Value.ownBlock]; exact hb⟩
  have hlt : g < w.heap.size := Blk.lt (show Blk w g 84 cur from hh)
  refine Vals.blk 0 (show Blk w g 84 cur from hh) (fun hm => by have := hS _ hm; omega) (fun i v hv => ?_)
  have hi : i < l.length * 4 := by have := (List.getElem?_eq_some_iff.1 hv).1; rw [valsOf_len] at this; omega
  rw [← ht, List.getElem?_take_of_lt hi] at hv
  simpa using hv
theorem Own.len {w : World} {base : Nat} {A : Option Addr} {n c : Nat} {l : List It} (h : Own w base (.slice A n c) l) : n = l.length := by
 obtain ⟨A', c', e, _⟩ := h.slice
 cases e
 rfl
theorem oneCell_It (i : It) : ∀ u ∈ i.vals, u.oneCell' = true := by
 intro u hu
 simp only [It.vals, List.mem_cons, List.not_mem_nil, or_false] at hu
 rcases hu with rfl | rfl | rfl | rfl <;> rfl
theorem valsOf_snoc (l : List It) (i : It) : valsOf (l ++ [i]) = valsOf l ++ i.vals := by simp [valsOf]
end Go.Proofs.YtolbalafhfpjbaaGreat.item
