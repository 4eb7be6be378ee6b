/- The statements' own example. -/
import Derived.Test.YteobkgajebbpaaaDiskMine
namespace Go.Proofs.Yteobkgajebbpaaa.disk
open Go.RowKit Go.Proofs.Yteobkgajebbpaaa.mem Go.Proofs.Yteobkgajebbpaaa.base

def exD : Dk := ⟨List.replicate 256 0, [(0, fillOf 1)], List.replicate 4 false, -1, 1, false⟩
theorem ex_write : (Dk.new 4).write 0 (fillOf 1) = (0, exD) := by
  have h1 : ((Dk.new 4).write 0 (fillOf 1)).1 = 0 := by decide +kernel
  have h2 : ((Dk.new 4).write 0 (fillOf 1)).2 = exD := by rfl
  exact Prod.ext h1 h2
theorem ex_one : (exD.crash [1]).read 0 = (0, fillOf 1) := by decide +kernel
theorem ex_none : (exD.crash []).read 0 = (0, List.replicate 64 0) := by decide +kernel
theorem ex_five : (exD.crash [5]).read 0 = (0, 1 :: List.replicate 63 0) := by decide +kernel

set_option maxRecDepth 100000 in
set_option maxHeartbeats 4000000 in
theorem awake_any (w : World) : Calls Try.prog 9 #[] w fun e w' => e = .returned (.bool true) ∧ Kept [] w w' := by
  go_enter Try.func9, Try.ntmps9
  go_wp2_with fail
  refine (mine_new 4 4 w _ rfl (Kept.refl _ _) (by omega) (by omega)).mono ?_
  rintro e w1 ⟨F, p, rfl, hm⟩
  have HM := hide hm
  clear hm
  go_wp2_with fail
  refine (new_no 0 _ (by omega)).mono ?_
  rintro e w2 ⟨rfl, rfl⟩
  go_wp2_with fail
  refine (mine_fill w F p _ 1 _ HM.out).mono ?_
  rintro e w2 ⟨g, rfl, hm, _, hv, _⟩
  have HM2 := hide hm
  have HV2 := hide hv
  clear hm hv HM
  go_wp2_with fail
  refine (mine_write w F p _ 0 _ 64 64 _ 0 exD _ HM2.out (by simp [Dk.new]) HV2.out (fillOf_length 1) ex_write).mono ?_
  rintro e w3 ⟨rfl, F3, hm⟩
  have HM3 := hide hm
  clear hm HM2 HV2
  go_wp2_with fail
  refine (mine_crash w F3 p exD _ 1 1 [1] _ (HM3.out.alloc _) (by simp [exD]) (vals_one _ [] 1 _ (by simp)) rfl).mono ?_
  rintro e w4 ⟨Fa, a, rfl, hma, hm, _, _⟩
  have HA := hide hma
  have HM4 := hide hm
  clear hma hm HM3
  go_wp2_with fail
  refine (mine_crash w F3 p exD none 0 0 [] _ HM4.out (by simp [exD]) (Vals.nil _ _ _) rfl).mono ?_
  rintro e w5 ⟨Fb, b, rfl, hmb, hm, _, hk⟩
  have HB := hide hmb
  have HA5 := hide (HA.out.kept hk)
  have HM5 := hide hm
  clear hmb hm hk HM4 HA
  go_wp2_with fail
  refine (mine_crash w F3 p exD _ 1 1 [5] _ (HM5.out.alloc _) (by simp [exD]) (vals_one _ [] 5 _ (by simp)) rfl).mono ?_
  rintro e w6 ⟨Fc, c, rfl, hmc, hm, _, hk⟩
  have HC := hide hmc
  have HA6 := hide ((HA5.out.alloc _).kept hk)
  have HB6 := hide ((HB.out.alloc _).kept hk)
  have HM6 := hide hm
  clear hmc hm hk HM5 HA5 HB
  go_wp2_with fail
  refine (mine_read w Fa a _ 0 0 (fillOf 1) 64 _ HA6.out ex_one (fillOf_length 1)).mono ?_
  rintro e w7 ⟨A7, c7, rfl, hf7, _, hk⟩
  have X7 := hide hf7.vals
  have HB7 := hide (HB6.out.kept hk)
  have HC7 := hide (HC.out.kept hk)
  have HM7 := hide (HM6.out.kept hk)
  clear hf7 hk HA6 HB6 HC HM6
  go_wp2_with fail
  refine (mine_read w Fb b _ 0 0 _ 64 _ HB7.out ex_none (by simp)).mono ?_
  rintro e w8 ⟨A8, c8, rfl, hf8, _, hk⟩
  have X8 := hide (X7.out.kept hk (by simp))
  have Y8 := hide hf8.vals
  have HC8 := hide (HC7.out.kept hk)
  have HM8 := hide (HM7.out.kept hk)
  clear hf8 hk X7 HB7 HC7 HM7
  go_wp2_with fail
  refine (mine_read w Fc c _ 0 0 _ 64 _ HC8.out ex_five (by simp)).mono ?_
  rintro e w9 ⟨A9, c9, rfl, hf9, _, hk⟩
  have X9 := hide (X8.out.kept hk (by simp))
  have Y9 := hide (Y8.out.kept hk (by simp))
  have Z9 := hide hf9.vals
  have HM9 := hide (HM8.out.kept hk)
  clear hf9 hk X8 Y8 HC8 HM8
  go_wp2_with fail
  refine (mine_fill w F3 p _ 1 _ HM9.out).mono ?_
  rintro e wa ⟨ga, rfl, hm, hvs, hv, hk⟩
  have XA := hide (X9.out.kept hk (by simp))
  have YA := hide (Y9.out.kept hk (by simp))
  have ZA := hide (Z9.out.kept hk (by simp))
  have VA := hide (hvs [] (by simp))
  have HMA := hide hm
  clear hm hvs hv hk X9 Y9 Z9 HM9
  go_wp2_with fail
  refine (bytes_any A7 _ 64 64 c7 64 (fillOf 1) (fillOf 1) _ (fillOf_length 1) (fillOf_length 1) XA.out VA.out (by omega)).mono ?_
  rintro e wb ⟨rfl, kb, rfl⟩
  obtain ⟨y0, rfl, _, hy0⟩ := YA.out 0 (B 0) (by simp)
  obtain ⟨z0, rfl, _, hz0⟩ := ZA.out 0 (B 1) (by simp)
  obtain ⟨z1, hz, _, hz1⟩ := ZA.out 1 (B 0) (by simp)
  injection hz with hz
  subst hz
  unfold B at hy0 hz0 hz1
  rw [show y0.add 0 = y0 from if_pos rfl] at hy0
  rw [show z0.add 0 = z0 from if_pos rfl] at hz0
  rw [add_pos _ 1 (by omega)] at hz1
  rw [decide_eq_true (rfl : fillOf 1 = fillOf 1)]
  clear XA YA ZA VA
  go_wp2_with fail
  refine (mine_held w F3 p _ _ (HMA.out.drewN kb) 1 rfl).mono ?_
  rintro e wc ⟨rfl, rfl⟩
  go_wp2_with fail
  refine (off_nil _).mono ?_
  rintro e wd ⟨rfl, rfl⟩
  go_wp2_with fail
  refine (crash_nil _ _).mono ?_
  rintro e we ⟨rfl, rfl⟩
  go_wp2
  go_ret
  exact ⟨rfl, (HMA.out.drewN kb).2.2⟩
end Go.Proofs.Yteobkgajebbpaaa.disk
