import Derived.Test.YtolbalafhfpjbaaGreatRows
import Derived.Test.YtolbalafhfpjbaaGreatPMemOps
import Derived.BigQuiet
import Derived.ChangeAlike
import Derived.Deep.Fields
import Derived.Deep.OwnRows
import Derived.Deep.QuietTactic
import Derived.Deep.RegionHeld3
import Derived.Deep.RegionLaw
import Derived.Deep.Slices
import Derived.IntWalk
import Derived.RegionTactic
import Derived.WalkKit
import Derived.WalkLawsBesides
import Derived.WalkSpells
namespace Go.Proofs.YtolbalafhfpjbaaGreat.base
open Go.RowKit mem
theorem vals_one (w : World) (S : List Nat) (n : Int) (t : TypeId) (hS : ∀ i ∈ S, i < w.heap.size) : Vals (w.alloc (.cells #[.int .i64 n] t)) S (some ⟨w.heap.size, 0, none⟩) ([n].map I) :=
 Vals.blk 0 (Blk.new w t #[.int .i64 n]) (fun hm => by have := hS _ hm; omega) (fun i v hv => by
  rcases i with _ | i
  ·simpa [I] using hv
  ·simp at hv)

theorem made_B (n i : Nat) (h : i < n) : (madeCells #[.int .u8 0] n)[i]? = some (B 0) := by
 simp [madeCells, h, Nat.mod_one]
 rfl
theorem own_slice {w : World} {base : Nat} {e : TypeId} {v : Value} {n : Nat} {xs : List Value} (h : w.ownsRow base e 1 v n xs) : ∃ A c, v = .slice A n c ∧ n ≤ c ∧ (A = none → c = 0) ∧ (∀ S : List Nat, (∀ i ∈ S, i < base ∨ w.heap.size ≤ i) → Vals w S A xs) ∧ (∀ g, v.ownBlock = some g → base ≤ g) := by
 rcases h.2 with ⟨rfl, rfl⟩ | ⟨g, cap, cur, rfl, hb, hh, hn, hm, hs, ht⟩
 ·have : xs = [] := List.eq_nil_of_length_eq_zero (by simpa using h.1)
  subst this
  exact ⟨none, 0, rfl, Nat.le_refl _, fun _ => rfl, fun S _ => Vals.nil _ _ _, by simp [Value.ownBlock]⟩
 ·refine ⟨_, _, rfl, hn, by simp, fun S hS => ?_, by simp [Value.ownBlock]; exact hb⟩
  have hlt : g < w.heap.size := Blk.lt (show Blk w g e cur from hh)
  refine Vals.blk 0 (show Blk w g e cur from hh) (fun hm => by have := hS _ hm; omega) (fun i v hv => ?_)
  have hi : i < n := by have := (List.getElem?_eq_some_iff.1 hv).1; have := h.1; omega
  rw [← ht, List.getElem?_take_of_lt (by omega)] at hv
  simpa using hv

theorem int_info : (Tryz.prog.info? 3).map (fun i => (i.zero, i.size, i.bytes)) = some (some (.int .i64 0), 1, 8) := by kernel_rfl

theorem mod_any (x n : Int) (w : World) (hn : 0 < n) (hn2 : n ≤ 4611686018427387904) :
  Calls Tryz.prog 70 #[.int .i64 x, .int .i64 n] w fun e w' => e = .returned (.int .i64 (x % n)) ∧ w = w' := by
 have hne : (n == 0) = false := beq_eq_false_iff_ne.2 (by omega)
 have h1 := Int.tmod_lt_of_pos x hn
 have h2 := Int.lt_tmod_of_pos x hn
 have h3 : Hid (x % n = if x.tmod n < 0 then x.tmod n + n else x.tmod n) := by
  unfold Hid
  have h4 : x = n * x.tdiv n + x.tmod n := (Int.mul_tdiv_add_tmod x n).symm
  have h5 : x % n = x.tmod n % n := by
   conv => lhs; rw [h4]
   rw [Int.mul_add_emod_self_left]
  split
  ·rw [h5, ← Int.add_emod_right, Int.emod_eq_of_lt (by omega) (by omega)]
  ·rw [h5, Int.emod_eq_of_lt (by omega) (by omega)]
 by_cases hk : x.tmod n < 0
 ·have HK := hide (show (n + x.tmod n = x % n) by rw [h3.out, if_pos hk]; omega)
  have HK2 := hide (show (x.tmod n + n = x % n) by rw [h3.out, if_pos hk])
  clear h3
  go_enter Tryz.func70, Tryz.ntmps70
  go_wp2
  go_ret
  exact ⟨congrArg (fun q => Ending.returned (.int .i64 q)) HK2.out, rfl⟩
 ·have HK2 := hide (show (x.tmod n = x % n) by rw [h3.out, if_neg hk])
  have hk' : 0 ≤ x.tmod n := by omega
  clear h3
  go_enter Tryz.func70, Tryz.ntmps70
  go_wp2
  go_ret
  exact ⟨congrArg (fun q => Ending.returned (.int .i64 q)) HK2.out, rfl⟩

theorem round_any (x n : Int) (w : World) (hn : 0 < n) (hn2 : n ≤ 4611686018427387904) :
  Calls Tryz.prog 13 #[.int .i64 x, .int .i64 n] w fun e w' => e = .returned (.int .i64 (x % n)) ∧ w = w' := by
 have H1 := hide hn
 have H2 := hide hn2
 clear hn hn2
 go_enter Tryz.func13, Tryz.ntmps13
 go_wp2_with fail
 refine (mod_any x n _ H1.out H2.out).mono ?_
 rintro e w' ⟨rfl, rfl⟩
 go_wp2
 go_ret
 exact ⟨rfl, rfl⟩

end Go.Proofs.YtolbalafhfpjbaaGreat.base
