/- The reference's Within and Equal, the statements' Bytes and Fill. -/
import Derived.Test.YtfeepmahipecpaaBase
import Derived.StillTailTactics
namespace Go.Proofs.Ytfeepmahipecpaa.base
open Go.RowKit Go.Proofs.Ytfeepmahipecpaa.mem

theorem within_any (n a b : Int) (w : World) :
    Calls Try.prog 34 #[.int .i64 n, .int .i64 a, .int .i64 b] w fun e w' => e = .returned (.bool (decide (a ≤ n) && decide (n ≤ b))) ∧ w = w' := by
  by_cases h : a ≤ n
  · go_enter Try.func34, Try.ntmps34
    go_wp2
    go_ret
    exact ⟨by simp [h], rfl⟩
  · go_enter Try.func34, Try.ntmps34
    go_wp2
    go_ret
    exact ⟨by rw [show decide (a ≤ n) = false from decide_eq_false (by omega)]; rfl, rfl⟩
theorem within_yes (n a b : Int) (w : World) (h : a ≤ n ∧ n ≤ b) :
    Calls Try.prog 34 #[.int .i64 n, .int .i64 a, .int .i64 b] w fun e w' => e = .returned (.bool true) ∧ w = w' :=
  (within_any n a b w).mono fun e w' ⟨he, hw⟩ => ⟨by rw [he]; simp [h.1, h.2], hw⟩
theorem within_no (n a b : Int) (w : World) (h : ¬ (a ≤ n ∧ n ≤ b)) :
    Calls Try.prog 34 #[.int .i64 n, .int .i64 a, .int .i64 b] w fun e w' => e = .returned (.bool false) ∧ w = w' :=
  (within_any n a b w).mono fun e w' ⟨he, hw⟩ => ⟨by rw [he]; congr 2; rw [← Bool.not_eq_true, Bool.and_eq_true, decide_eq_true_iff, decide_eq_true_iff]; exact h, hw⟩

/-- 64 bytes that begin with a number and count on. -/
def fillOf (x : Int) : List UInt8 := (List.range 64).map fun k => UInt8.ofNat (((x % 256).toNat + k) % 256)
theorem fillOf_length (x : Int) : (fillOf x).length = 64 := by simp [fillOf]
theorem fillOf_get (x : Int) (k : Nat) (h : k < 64) : (fillOf x)[k]? = some (UInt8.ofNat (((x % 256).toNat + k) % 256)) := by simp [fillOf, h]
def fillK (x : Int) (k : Nat) : List UInt8 := (fillOf x).take k ++ List.replicate (64 - k) 0
theorem fillK_length (x : Int) (k : Nat) (h : k ≤ 64) : (fillK x k).length = 64 := by simp [fillK, fillOf_length]; omega
theorem fillK_succ (x : Int) (k : Nat) (h : k < 64) : (fillK x k).set k (UInt8.ofNat (((x % 256).toNat + k) % 256)) = fillK x (k + 1) := by
  have h1 : ((fillOf x).take k).length = k := by rw [List.length_take, fillOf_length]; omega
  unfold fillK
  rw [List.set_append, h1, if_neg (by omega), Nat.sub_self, show 64 - k = (64 - (k + 1)) + 1 by omega, List.replicate_succ, List.set_cons_zero, List.take_add_one, fillOf_get x k h]
  simp

end Go.Proofs.Ytfeepmahipecpaa.base
