/- The reference's One and Num. -/
import Derived.Test.YtbghkfjjmgmjmaaRefLay
import Derived.Test.YtbghkfjjmgmjmaaFar
namespace Go.Proofs.Ytbghkfjjmgmjmaa.ref
open Go.RowKit Go.Proofs.Ytbghkfjjmgmjmaa.mem Go.Proofs.Ytbghkfjjmgmjmaa.row

theorem rone_any (p g : Nat) (R R' : Row) (x y : Int) (w : World) (h : RefAt w p g R) (hR : (R.put x [y]).2 = R') :
    Calls Try.prog 28 #[.pointer (some ⟨p, 0, none⟩), .int .i64 x, .int .i64 y] w fun e w' => e = .returned (.tuple #[]) ∧ RefAt w' p g R' ∧ Kept [p, g] w w' := by
  have hp1 := h.lt
  have hg1 := h.blt
  have HR := hide h
  have HE := hide hR
  clear h hR
  go_enter Try.func28, Try.ntmps28
  go_wp2_with fail
  refine (rput_at p g R x (some ⟨w.heap.size, 0, none⟩) [y] 1 1 _ rfl (HR.out.kept (S := []) ((Kept.refl _ w).alloc _) (by simp) (by simp)) (Vals.lit w [p, g] _ _ _ ([y].map I) rfl (by simp; omega)) (by omega)).mono ?_
  rintro e w2 ⟨rfl, hr, hk⟩
  rw [HE.out] at hr
  have HR2 := hide hr
  have HK2 := hide (((Kept.refl [p, g] w).alloc _).trans hk (fun i hi => .inl hi))
  clear hr hk
  go_wp2
  go_end0
  exact ⟨rfl, HR2.out, HK2.out⟩

theorem rnum_any (p g : Nat) (R R' : Row) (x y : Int) (w : World) (h : RefAt w p g R) (hR : (R.get x).2.2 = R') (hy : (R.get x).1 = y) :
    Calls Try.prog 33 #[.pointer (some ⟨p, 0, none⟩), .int .i64 x] w fun e w' => e = .returned (.int .i64 y) ∧ RefAt w' p g R' ∧ Kept [p] w w' := by
  have H := hide h
  have HY := hide hy
  have HRR := hide hR
  clear h hy hR
  go_enter Try.func33, Try.ntmps33
  go_wp2_with fail
  refine (ref.rget_at p g R x _ H.out).mono ?_
  rintro e w1 ⟨rfl, hr, hk⟩
  rw [HRR.out] at hr
  rw [HY.out]
  have HR := hide hr
  have HK := hide hk
  clear hr hk
  go_wp2
  go_ret
  exact ⟨rfl, HR.out, HK.out⟩
end Go.Proofs.Ytbghkfjjmgmjmaa.ref
