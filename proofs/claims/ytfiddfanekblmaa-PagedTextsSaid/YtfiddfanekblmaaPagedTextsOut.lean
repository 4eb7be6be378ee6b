/- The statement about texts, outside of what it looks at. -/
import Derived.Test.YtfiddfanekblmaaPagedKit
import Derived.Test.YtfiddfanekblmaaPagedWalk
import Derived.Test.YtfiddfanekblmaaPagedAtStr
namespace Go.Proofs.Ytfiddfanekblmaa.pd
set_option linter.unusedSimpArgs false
open Go.RowKit Go.Proofs.Ytfiddfanekblmaa.mem Go.Proofs.Ytfiddfanekblmaa.base Go.Proofs.Ytfiddfanekblmaa.owns

theorem held_cv {a W W' : World} {q : Addr} {u : Value} {A : Option Addr} {vs : List Value} (h : Kept [] a W ∧ W.cell? q = some u ∧ Vals W [] A vs) (k : Kept [] W W') : Kept [] a W' ∧ W'.cell? q = some u ∧ Vals W' [] A vs := ⟨h.1.trans k (by simp), k.cell h.2.1 (by simp), h.2.2.kept k (by simp)⟩

set_option maxRecDepth 100000 in
set_option maxHeartbeats 1000000 in
theorem texts_out (n per : Int) (A : Option Addr) (len c : Nat) (w : World) (h : n < 1 ∨ 60 < n ∨ per < 1 ∨ 60 < per ∨ 40 < len) :
    Calls Try.prog 6 #[.int .i64 n, .int .i64 per, .slice A len c] w fun e w' => e = .returned (.bool true) ∧ Below w.heap.size w w' := by
  have ha := awake_any w
  rcases h with h | h | h | h | h <;>
  · go_enter Try.func6, Try.ntmps6
    go_wp2_with (go_at_call 7; refine ha.mono ?_; rintro e w' ⟨rfl, hk⟩)
    all_goals
      go_ret
      exact ⟨rfl, hk.below (by simp)⟩
end Go.Proofs.Ytfiddfanekblmaa.pd
