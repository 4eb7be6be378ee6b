/- Package paged: two values are like ones (a deferred call asks for a panic that is none). -/
import Derived.Test.YtfeepmahipecpaaPagedMem
import Derived.Recover
namespace Go.Proofs.Ytfeepmahipecpaa.pd
open Go.RowKit Go.Proofs.Ytfeepmahipecpaa.mem Go.Proofs.Ytfeepmahipecpaa.base

theorem beq_int (x y : Int) : (x == y) = decide (x = y) := by
  rw [Bool.eq_iff_iff, beq_iff_eq, decide_eq_true_iff]

theorem idle_int (w : World) :
    CallsD Try.prog 77 #[] .returning w fun e u' w' => e = .returned (.tuple #[]) ∧ u' = .returning ∧ w' = w := by
  refine callsD_of_wpS Try.func77 rfl fun c₀ cs hu => ?_
  apply wpS_region
  simp [wpOpsS, go_sem, recoverD, hu, Try.ntmps77, bodyPostS, results, Try.results77]
  cases c₀
  simp_all

theorem same_int (x y : Int) (w : World) :
    Calls Try.prog 70 #[.int .i64 x, .int .i64 y] w fun e w' => e = .returned (.bool (decide (x = y))) ∧ w' = w := by
  go_enter_defers Try.func70, Try.ntmps70
  go_wp2
  refine leaves_cons (f := 77) (args := #[]) (by simp) (by simp [go_sem]) ?_
  refine (idle_int _).mono ?_
  rintro e u' w'' ⟨rfl, rfl, rfl⟩
  simp [Leaves, settle, results, Try.results70, go_sem]
  exact beq_int x y
end Go.Proofs.Ytfeepmahipecpaa.pd
