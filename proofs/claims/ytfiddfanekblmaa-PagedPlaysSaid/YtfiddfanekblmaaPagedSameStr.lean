/- Package paged: two values are like ones (a deferred call asks for a panic that is none). -/
import Derived.Test.YtfiddfanekblmaaPagedMem
import Derived.Recover
namespace Go.Proofs.Ytfiddfanekblmaa.pd
open Go.RowKit Go.Proofs.Ytfiddfanekblmaa.mem Go.Proofs.Ytfiddfanekblmaa.base

theorem beq_str (x y : ByteArray) : (x.toList == y.toList) = decide (x = y) := by
  rw [Bool.eq_iff_iff, beq_iff_eq, decide_eq_true_iff]
  rw [ByteArray.toList_eq, ByteArray.toList_eq]
  exact ⟨fun h => ByteArray.ext (Array.toList_inj.1 h), fun h => by rw [h]⟩

theorem idle_str (w : World) :
    CallsD Try.prog 47 #[] .returning w fun e u' w' => e = .returned (.tuple #[]) ∧ u' = .returning ∧ w' = w := by
  refine callsD_of_wpS Try.func47 rfl fun c₀ cs hu => ?_
  apply wpS_region
  simp [wpOpsS, go_sem, recoverD, hu, Try.ntmps47, bodyPostS, results, Try.results47]
  cases c₀
  simp_all

theorem same_str (x y : ByteArray) (w : World) :
    Calls Try.prog 39 #[.string x, .string y] w fun e w' => e = .returned (.bool (decide (x = y))) ∧ w' = w := by
  go_enter_defers Try.func39, Try.ntmps39
  go_wp2
  refine leaves_cons (f := 47) (args := #[]) (by simp) (by simp [go_sem]) ?_
  refine (idle_str _).mono ?_
  rintro e u' w'' ⟨rfl, rfl, rfl⟩
  simp [Leaves, settle, results, Try.results39, go_sem]
  exact beq_str x y
end Go.Proofs.Ytfiddfanekblmaa.pd
