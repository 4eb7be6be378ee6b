/- The statements about package paged, outside of what they look at. -/
import Derived.Test.YtfiddfanekblmaaPagedKit
namespace Go.Proofs.Ytfiddfanekblmaa.pd
set_option linter.unusedSimpArgs false
open Go.RowKit Go.Proofs.Ytfiddfanekblmaa.mem Go.Proofs.Ytfiddfanekblmaa.base Go.Proofs.Ytfiddfanekblmaa.owns

set_option maxRecDepth 100000 in
set_option maxHeartbeats 1000000 in
theorem pages_out (n per : Int) (A : Option Addr) (len c : Nat) (w : World) (h : n < 1 ∨ 200 < n ∨ per < 1 ∨ 300 < per ∨ 50 < len) :
    Calls Try.prog 4 #[.int .i64 n, .int .i64 per, .slice A len c] w fun e w' => e = .returned (.bool true) ∧ Below w.heap.size w w' := by
  have ha := awake_any w
  rcases h with h | h | h | h | h <;>
  · go_enter Try.func4, Try.ntmps4
    go_wp2_with (go_at_call 7; refine ha.mono ?_; rintro e w' ⟨rfl, hk⟩)
    all_goals
      go_ret
      exact ⟨rfl, hk.below (by simp)⟩

set_option maxRecDepth 100000 in
set_option maxHeartbeats 1000000 in
theorem dirty_out (A : Option Addr) (len c : Nat) (B : Option Addr) (len' c' : Nat) (s : Int) (w : World) (h : 40 < len ∨ 40 < len') :
    Calls Try.prog 5 #[.slice A len c, .slice B len' c', .int .i64 s] w fun e w' => e = .returned (.bool true) ∧ Below w.heap.size w w' := by
  have ha := awake_any w
  rcases h with h | h <;>
  · go_enter Try.func5, Try.ntmps5
    go_wp2_with (first
      | (go_at_call 7; refine ha.mono ?_; rintro e w' ⟨rfl, hk⟩)
      | fail)
    all_goals
      go_ret
      exact ⟨rfl, hk.below (by simp)⟩

end Go.Proofs.Ytfiddfanekblmaa.pd
