/- The statements' Uses: the same uses. -/
import Derived.Test.YtjcnndnipnkhoaaUsageFrees
import Derived.Laws.StructEq
namespace Go.Proofs.Ytjcnndnipnkhoaa.us
set_option linter.unusedSimpArgs false
open Go.RowKit Go.Proofs.Ytjcnndnipnkhoaa.mem Go.Proofs.Ytjcnndnipnkhoaa.base

theorem neq_use (x y : Int) (W : World) : (binOp .neq 61 (.agg #[.int .i64 x, .int .i64 y]) (.agg #[.int .i64 x, .int .i64 y])).run Try.prog W = .ok (.bool false) W := by
  rw [run_neq_struct, show (10000 : Nat) = 9999 + 1 from rfl, run_equalIn_agg W 9999 _ _ _ (by kernel_rfl) (by kernel_rfl)]
  have u3 := Try.underlying3
  simp only [Program.fieldsOf, Try.underlying61]
  go_simp

set_option maxRecDepth 100000 in
theorem alike_any (A1 A2 : Option Addr) (n c1 c2 : Nat) (us : List Rw) (w : World) (hn : us.length = n) (h1 : Vals w [] A1 (usesOf us)) (h2 : Vals w [] A2 (usesOf us)) (hm : n ≤ 1000) :
    Calls Try.prog 35 #[.slice A1 n c1, .slice A2 n c2] w fun e w' => e = .returned (.bool true) ∧ Kept [] w w' := by
  have HN := hide hn
  have H1 := hide h1
  have H2 := hide h2
  clear hn h1 h2
  go_enter Try.func35, Try.ntmps35
  go_wp2
  go_loopw [5] (fun i wr => ∃ j : Nat, j ≤ n ∧ i = .int .i64 j ∧ ∃ d, wr = w.drewN d) (fun i wr => n - (intOf i).toNat)
  case atStart => exact ⟨0, Nat.zero_le _, rfl, 0, rfl⟩
  case round =>
    obtain ⟨j, hj, rfl, d, rfl⟩ := hrel
    by_cases hlt : j < n
    · obtain ⟨x, hx⟩ : ∃ x, us[j]? = some x := ⟨_, List.getElem?_eq_getElem (by rw [HN.out]; exact hlt)⟩
      obtain ⟨ad1, rfl, _, a0, a1⟩ := uses_at H1.out hx
      obtain ⟨ad2, rfl, _, b0, b1⟩ := uses_at H2.out hx
      have hne := neq_use x.s x.t
      clear hx
      go_wp2
      go_quiet (fail)
      go_wp2
      go_roundw
      case rel => exact ⟨j + 1, by omega, by go_num, _, rfl⟩
      case measure => simp [intOf]; omega
    · obtain rfl : j = n := by omega
      go_wp2
      go_ret
      exact ⟨rfl, (Kept.refl [] w).drewN _⟩
end Go.Proofs.Ytjcnndnipnkhoaa.us
