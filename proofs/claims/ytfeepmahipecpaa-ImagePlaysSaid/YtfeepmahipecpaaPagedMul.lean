/- The library: one times a number. -/
import Derived.Test.YtfeepmahipecpaaPagedMem
namespace Go.Proofs.Ytfeepmahipecpaa.pd
open Go.RowKit Go.Proofs.Ytfeepmahipecpaa.mem Go.Proofs.Ytfeepmahipecpaa.base

theorem mask32 (n : Nat) (hn : n ≤ 65536) : bits .and .u64 (n : Int) 4294967295 = n := by
  have h := bits_and_u64_nat n 4294967295 (by omega) (by omega)
  have e : n &&& 4294967295 = n % 4294967296 := Nat.and_two_pow_sub_one_eq_mod n 32
  rw [e, Nat.mod_eq_of_lt (by omega)] at h
  exact h

set_option maxRecDepth 100000 in
theorem mul64_any (n : Nat) (hn : n ≤ 65536) (w : World) :
    Calls Try.prog 81 #[.int .u64 1, .int .u64 n] w fun e w' => e = .returned (.tuple #[.int .u64 0, .int .u64 n]) ∧ w' = w := by
  have m1 : bits .and .u64 1 4294967295 = 1 := mask32 1 (by omega)
  have m2 := mask32 n hn
  have m3 : bits .and .u64 0 4294967295 = 0 := mask32 0 (by omega)
  have d1 : (n : Int) / 4294967296 = 0 := by omega
  have w1 : IntKind.u64.wrap (n : Int) = n := by rw [IntKind.wrap_u64]; omega
  go_enter Try.func81, Try.ntmps81
  go_wp2
  go_ret2
  exact ⟨by simp, rfl⟩

set_option maxRecDepth 100000 in
theorem mul_any (n : Nat) (hn : n ≤ 65536) (w : World) :
    Calls Try.prog 75 #[.int .u64 1, .int .u64 n] w fun e w' => e = .returned (.tuple #[.int .u64 0, .int .u64 n]) ∧ w' = w := by
  have H := hide hn
  clear hn
  go_enter Try.func75, Try.ntmps75
  go_wp2_with fail
  refine (mul64_any n H.out _).mono ?_
  rintro e w' ⟨rfl, rfl⟩
  go_wp2
  go_ret2
  exact ⟨rfl, rfl⟩
end Go.Proofs.Ytfeepmahipecpaa.pd
