/-
  The given statement DiskFaultsSaid is proved: whatever the arguments are, the law returns true and leaves its input as it was. No conditions.
-/
import Derived.Test.YteobkgajebbpaaaDiskSums
import Derived.Below
import Derived.WalkKit
import Derived.ProofKit
import Derived.OpenShut
import Derived.ShutString
namespace Go.Proofs.Yteobkgajebbpaaa.diskFaults
open Go.ChangeShapes Go.WideShapes Go.ChangeAt Go.RowKit
open Go.ChangeMaps (open_string shut_string)
open Go.Proofs.Yteobkgajebbpaaa.mem Go.Proofs.Yteobkgajebbpaaa.base Go.Proofs.Yteobkgajebbpaaa.disk
set_option linter.unusedVariables false      -- a walk need not use every 'w<i>' (that an integer argument fits its kind)

theorem own : ownKnob Try.prog.godebug = none := by kernel_rfl

section
variable (a b : Nat) (fx fy : List UInt8)
def flat : List UInt8 := List.replicate 384 0
theorem flat_length : flat.length = 64 * 6 := List.length_replicate
def D1 : Dk := ⟨flat, [(a, fx)], List.replicate 6 false, -1, 1, false⟩
def D2 : Dk := ⟨flat, [(a, fx)], (List.replicate 6 false).set b true, -1, 1, false⟩
def D3 : Dk := ⟨lay flat (64 * a) fx, [], (List.replicate 6 false).set b true, -1, 0, false⟩
def D4 : Dk := ⟨lay flat (64 * a) fx, [(b, fy)], (List.replicate 6 false).set b true, -1, 1, false⟩
def D5 : Dk := ⟨lay flat (64 * a) fx, [(b, fy)], ((List.replicate 6 false).set b true).set b false, -1, 1, false⟩
variable {a b fx fy} (ha : a < 6) (hb : b < 6) (hx : fx.length = 64) (hy : fy.length = 64)
include ha hx in
theorem e1 : (Dk.new 6).write a fx = (0, D1 a fx) := write_eq (D := Dk.new 6) (by rw [new_n]; exact ha) hx rfl
include hb in
theorem e2 : (D1 a fx).faulted b true = (0, D2 a b fx) := fault_eq (D := D1 a fx) true (by simpa [Dk.n, D1] using hb)
include hb in
theorem e3 : (D2 a b fx).read b = (4, []) := by
  rw [read_eq (by simpa [Dk.n, D2] using hb) rfl, if_pos]
  exact set_self _ _ _ (by simpa using hb)
include ha hx in
theorem e4 (h : a ≠ b) : (D2 a b fx).read a = (0, fx) := by
  rw [read_eq (by simpa [Dk.n, D2] using ha) rfl, if_neg]
  · show (0, sec (lay flat (64 * a) fx) a) = _
    rw [sec_one 6 a flat fx flat_length ha hx]
  · show ¬ ((List.replicate 6 false).set b true).getD a false = true
    rw [set_far _ _ _ _ (Ne.symm h), rep_false]
    simp
theorem e5 : (D2 a b fx).crash [1] = D3 a b fx := rfl
include hb in
theorem e6 : (D3 a b fx).read b = (4, []) := by
  rw [read_eq (by simpa [Dk.n, D3] using hb) rfl, if_pos]
  exact set_self _ _ _ (by simpa using hb)
include hb hy in
theorem e7 : (D3 a b fx).write b fy = (0, D4 a b fx fy) := write_eq (D := D3 a b fx) (by simpa [Dk.n, D3] using hb) hy rfl
include hb in
theorem e8 : (D4 a b fx fy).faulted b false = (0, D5 a b fx fy) := fault_eq (D := D4 a b fx fy) false (by simpa [Dk.n, D4] using hb)
include ha hb hx hy in
theorem e9 : (D5 a b fx fy).read b = (0, fy) := by
  rw [read_eq (by simpa [Dk.n, D5] using hb) rfl, if_neg]
  · show (0, sec (lay (lay flat (64 * a) fx) (64 * b) fy) b) = _
    rw [sec_one 6 b _ fy (by rw [lay_length _ _ _ (by rw [flat_length]; omega), flat_length]) hb hy]
  · show ¬ (((List.replicate 6 false).set b true).set b false).getD b false = true
    rw [set_self _ _ _ (by simpa using hb)]
    simp
end

set_option maxRecDepth 100000 in
set_option maxHeartbeats 1000000 in
theorem walk (a0 : Int) (a1 : Int) (a2 : Int) (w : World) :
    Calls Try.prog 7 #[.int .i64 a0, .int .i64 a1, .int .i64 a2] w fun e w' => e = .returned (.bool true) ∧ Below w.heap.size w w' := by
  go_enter Try.func7, Try.ntmps7
  go_wp2_with fail
  refine (round_ex a0 6 _ (by omega) (by omega)).mono ?_
  rintro e w1 ⟨a, ha, rfl, rfl⟩
  have ha' : a < 6 := by omega
  go_wp2_with fail
  refine (round_ex a1 6 _ (by omega) (by omega)).mono ?_
  rintro e w1 ⟨b, hb, rfl, rfl⟩
  have hb' : b < 6 := by omega
  have hx := fillOf_length a2
  obtain ⟨fx, hfx⟩ : ∃ fx, fillOf a2 = fx := ⟨_, rfl⟩
  have HFX := hide hfx
  rw [hfx] at hx
  clear hfx
  have E1 := hide (e1 ha' hx)
  have E2 := hide (e2 (a := a) (fx := fx) hb')
  have E3 := hide (e3 (a := a) (fx := fx) hb')
  have E4 := hide (e4 (b := b) ha' hx)
  have E6 := hide (e6 (a := a) (fx := fx) hb')
  have HX := hide hx
  have HAA := hide ha'
  have HBB := hide hb'
  clear hx
  go_wp2_with fail
  refine (mine_new 6 6 w _ rfl (Kept.refl _ _) (by omega) (by omega)).mono ?_
  rintro e w1 ⟨F, p, rfl, hm⟩
  have HM := hide hm
  clear hm
  go_wp2_with fail
  refine (mine_fill w F p _ a2 _ HM.out).mono ?_
  rintro e w2 ⟨g, rfl, hm, _, hv, _⟩
  rw [HFX.out] at hv
  have HM2 := hide hm
  have HV2 := hide hv
  clear hm hv HM
  go_wp2_with fail
  refine (mine_write w F p _ a _ 64 64 fx 0 _ _ HM2.out (by simp [Dk.new]) HV2.out HX.out E1.out).mono ?_
  rintro e w3 ⟨rfl, F3, hm⟩
  have HM3 := hide hm
  clear hm HM2 HV2
  go_wp2_with fail
  refine (mine_fault w F3 p _ b true 0 _ _ HM3.out E2.out).mono ?_
  rintro e w4 ⟨rfl, hm⟩
  have HM4 := hide hm
  clear hm HM3
  go_wp2_with fail
  refine (mine_read w F3 p _ b 4 [] 0 _ HM4.out E3.out rfl).mono ?_
  rintro e w5 ⟨A5, c5, rfl, _, hm, _⟩
  have HM5 := hide hm
  clear hm HM4
  have key : ∃ (k : Int) (bz : List UInt8) (n : Nat), (D2 a b fx).read a = (k, bz) ∧ bz.length = n ∧ ((a ≠ b ∧ k = 0 ∧ bz = fx ∧ n = 64) ∨ (a = b ∧ k = 4 ∧ n = 0)) := by
    by_cases h : a = b
    · refine ⟨4, [], 0, ?_, rfl, .inr ⟨h, rfl, rfl⟩⟩
      rw [h]
      subst h
      exact E3.out
    · exact ⟨0, fx, 64, E4.out h, HX.out, .inl ⟨h, rfl, rfl, rfl⟩⟩
  obtain ⟨k, bz, n, hr, hn, hkey⟩ := key
  have HR := hide hr
  have HN := hide hn
  clear hr hn
  go_wp2_with fail
  refine (mine_read w F3 p _ a k bz n _ HM5.out HR.out HN.out).mono ?_
  rintro e w6 ⟨A6, c6, rfl, hf6, hm, _⟩
  have HM6 := hide hm
  have V6 := hide hf6.vals
  clear hm hf6 HM5 HR
  rcases hkey with ⟨hab, rfl, rfl, rfl⟩ | ⟨hab, rfl, rfl⟩
  · have hab' : ((a : Int) != (b : Int)) = true := bne_iff_ne.2 (by omega)
    go_wp2_with fail
    refine (mine_fill w F3 p _ a2 _ HM6.out).mono ?_
    rintro e w7 ⟨g7, rfl, hm, hvs, _, hk⟩
    rw [HFX.out] at hvs
    have HM7 := hide hm
    have V7 := hide (hvs [] (by simp))
    have W7 := hide (V6.out.kept hk (by simp))
    clear hm hvs hk HM6 V6
    go_wp2_with fail
    refine (bytes_any A6 _ 64 64 c6 64 bz bz _ HX.out HX.out W7.out V7.out (by omega)).mono ?_
    rintro e w8 ⟨rfl, k8, rfl⟩
    rw [decide_eq_true (rfl : bz = bz)]
    have HM8 := hide (HM7.out.drewN k8)
    clear HM7 V7 W7
    generalize w7.drewN k8 = w8 at *
    go_wp2_with fail
    refine (mine_crash w F3 p _ _ 1 1 [1] _ (HM8.out.alloc _) (by simp [D2]) (vals_one _ [] 1 _ (by simp)) rfl).mono ?_
    rintro e w9 ⟨F9, q, rfl, hm, _, _, _⟩
    have HM9 : Hid (Mine w w9 F9 q (D3 a b bz)) := hide hm
    clear hm HM8
    have hy := fillOf_length (wrap64 (a2 + 1))
    obtain ⟨fy, hfy⟩ : ∃ fy, fillOf (wrap64 (a2 + 1)) = fy := ⟨_, rfl⟩
    have HFY := hide hfy
    rw [hfy] at hy
    clear hfy
    have E7 := hide (e7 (a := a) (fx := bz) HBB.out hy)
    have E8 := hide (e8 (a := a) (fx := bz) (fy := fy) HBB.out)
    have E9 := hide (e9 (fx := bz) HAA.out HBB.out HX.out hy)
    have HY := hide hy
    clear hy
    go_wp2_with fail
    refine (mine_read w F9 q _ b 4 [] 0 _ HM9.out E6.out rfl).mono ?_
    rintro e wa ⟨Aa, ca, rfl, _, hm, _⟩
    have HMa := hide hm
    clear hm HM9
    go_wp2_with fail
    refine (mine_fill w F9 q _ (wrap64 (a2 + 1)) _ HMa.out).mono ?_
    rintro e wb ⟨gb, rfl, hm, _, hv, _⟩
    rw [HFY.out] at hv
    have HMb := hide hm
    have HVb := hide hv
    clear hm hv HMa
    go_wp2_with fail
    refine (mine_write w F9 q _ b _ 64 64 fy 0 _ _ HMb.out (by simp [D3]) HVb.out HY.out E7.out).mono ?_
    rintro e wc ⟨rfl, Fc, hm⟩
    have HMc := hide hm
    clear hm HMb HVb
    go_wp2_with fail
    refine (mine_fault w Fc q _ b false 0 _ _ HMc.out E8.out).mono ?_
    rintro e wd ⟨rfl, hm⟩
    have HMd := hide hm
    clear hm HMc
    go_wp2_with fail
    refine (mine_read w Fc q _ b 0 fy 64 _ HMd.out E9.out HY.out).mono ?_
    rintro e we ⟨Ae, ce, rfl, hfe, hm, _⟩
    have HMe := hide hm
    have VE := hide hfe.vals
    clear hm hfe HMd
    go_wp2_with fail
    refine (mine_fill w Fc q _ (wrap64 (a2 + 1)) _ HMe.out).mono ?_
    rintro e wf ⟨gf, rfl, hm, hvs, _, hk⟩
    rw [HFY.out] at hvs
    have HMf := hide hm
    have VF := hide (hvs [] (by simp))
    have WF := hide (VE.out.kept hk (by simp))
    clear hm hvs hk HMe VE
    go_wp2_with fail
    refine (bytes_any Ae _ 64 64 ce 64 fy fy _ HY.out HY.out WF.out VF.out (by omega)).mono ?_
    rintro e wg ⟨rfl, kg, rfl⟩
    rw [decide_eq_true (rfl : fy = fy)]
    have HMg := hide (HMf.out.drewN kg)
    clear HMf VF WF
    generalize wf.drewN kg = wg at *
    go_wp2_with fail
    refine (awake_any _).mono ?_
    rintro e wh ⟨rfl, hk⟩
    have HMh := hide (HMg.out.kept hk)
    clear hk HMg
    go_wp2
    go_ret
    exact ⟨rfl, HMh.out.below⟩
  · subst hab
    have hab' : ((a : Int) != (a : Int)) = false := by simp
    go_wp2_with fail
    refine (mine_crash w F3 p _ _ 1 1 [1] _ (HM6.out.alloc _) (by simp [D2]) (vals_one _ [] 1 _ (by simp)) rfl).mono ?_
    rintro e w9 ⟨F9, q, rfl, hm, _, _, _⟩
    have HM9 : Hid (Mine w w9 F9 q (D3 a a fx)) := hide hm
    clear hm HM6
    have hy := fillOf_length (wrap64 (a2 + 1))
    obtain ⟨fy, hfy⟩ : ∃ fy, fillOf (wrap64 (a2 + 1)) = fy := ⟨_, rfl⟩
    have HFY := hide hfy
    rw [hfy] at hy
    clear hfy
    have E7 := hide (e7 (a := a) (fx := fx) HBB.out hy)
    have E8 := hide (e8 (a := a) (fx := fx) (fy := fy) HBB.out)
    have E9 := hide (e9 (fx := fx) HAA.out HBB.out HX.out hy)
    have HY := hide hy
    clear hy
    go_wp2_with fail
    refine (mine_read w F9 q _ a 4 [] 0 _ HM9.out E6.out rfl).mono ?_
    rintro e wa ⟨Aa, ca, rfl, _, hm, _⟩
    have HMa := hide hm
    clear hm HM9
    go_wp2_with fail
    refine (mine_fill w F9 q _ (wrap64 (a2 + 1)) _ HMa.out).mono ?_
    rintro e wb ⟨gb, rfl, hm, _, hv, _⟩
    rw [HFY.out] at hv
    have HMb := hide hm
    have HVb := hide hv
    clear hm hv HMa
    go_wp2_with fail
    refine (mine_write w F9 q _ a _ 64 64 fy 0 _ _ HMb.out (by simp [D3]) HVb.out HY.out E7.out).mono ?_
    rintro e wc ⟨rfl, Fc, hm⟩
    have HMc := hide hm
    clear hm HMb HVb
    go_wp2_with fail
    refine (mine_fault w Fc q _ a false 0 _ _ HMc.out E8.out).mono ?_
    rintro e wd ⟨rfl, hm⟩
    have HMd := hide hm
    clear hm HMc
    go_wp2_with fail
    refine (mine_read w Fc q _ a 0 fy 64 _ HMd.out E9.out HY.out).mono ?_
    rintro e we ⟨Ae, ce, rfl, hfe, hm, _⟩
    have HMe := hide hm
    have VE := hide hfe.vals
    clear hm hfe HMd
    go_wp2_with fail
    refine (mine_fill w Fc q _ (wrap64 (a2 + 1)) _ HMe.out).mono ?_
    rintro e wf ⟨gf, rfl, hm, hvs, _, hk⟩
    rw [HFY.out] at hvs
    have HMf := hide hm
    have VF := hide (hvs [] (by simp))
    have WF := hide (VE.out.kept hk (by simp))
    clear hm hvs hk HMe VE
    go_wp2_with fail
    refine (bytes_any Ae _ 64 64 ce 64 fy fy _ HY.out HY.out WF.out VF.out (by omega)).mono ?_
    rintro e wg ⟨rfl, kg, rfl⟩
    rw [decide_eq_true (rfl : fy = fy)]
    have HMg := hide (HMf.out.drewN kg)
    clear HMf VF WF
    generalize wf.drewN kg = wg at *
    go_wp2_with fail
    refine (awake_any _).mono ?_
    rintro e wh ⟨rfl, hk⟩
    have HMh := hide (HMg.out.kept hk)
    clear hk HMg
    go_wp2
    go_ret
    exact ⟨rfl, HMh.out.below⟩

/-! ### the row's step, as the guide's skeleton has it -/
set_option maxRecDepth 100000 in
theorem lifted (os : Os) (started : os.Started) (H : Type) (enc : TypeId × Value → H) :
    ReturnsInHanded {} Try.checked os 7 .any (Rows.diskFaultsSpec.pre6 enc Try.prog Try.f7 Rows.diskFaultsRow.domain false) (Rows.diskFaultsSpec.post enc Try.prog Try.f7 false true false false) := by
  refine returnsInHanded_of_change (C := Try.checked) own started (by kernel_rfl) Try.func7
    (ChangeSpec.witness6 (enc := enc) (C := Try.checked) false ⟨#[], #[.int .i64 0, .int .i64 0, .int .i64 0], []⟩ 8 (by kernel_rfl) (by kernel_rfl) (by kernel_rfl) (by kernel_rfl)) ?_
  intro W base args ds gs before hval0 hW hcnd _
  have hval : ∀ (j : Nat) t v, Try.f7.params[j]? = some t → args[j]? = some v → Value.okWide Try.prog W .any base t v := hval0
  have hW' := hW
  obtain ⟨p, q, hA0, hV, rfl, hfz, hnd⟩ := hW
  have hA : DataW.TrodAll enc Try.prog W 0 (fun _ => true) true Try.f7.params.toList args.toList ds p := hA0
  rw [Try.params7] at hA hval
  obtain ⟨v0, vs0, d0, ds0, p0, q0, hargs, rfl, rfl, h0, r0⟩ := trodAll_cons hA
  obtain ⟨v1, vs1, d1, ds1, p1, q1, rfl, rfl, rfl, h1, r1⟩ := trodAll_cons r0
  obtain ⟨v2, vs2, d2, ds2, p2, q2, rfl, rfl, rfl, h2, r2⟩ := trodAll_cons r1
  obtain ⟨rfl, rfl, rfl⟩ := trodAll_nil r2
  obtain rfl : args = #[v0, v1, v2] := by cases args; simp_all
  obtain ⟨rfl, rfl⟩ := trodVars_none hV
  obtain ⟨a0, rfl, rfl, rfl, w0⟩ := open_int Try.underlying3 (hval 0 3 v0 rfl rfl) h0
  obtain ⟨a1, rfl, rfl, rfl, w1⟩ := open_int Try.underlying3 (hval 1 3 v1 rfl rfl) h1
  obtain ⟨a2, rfl, rfl, rfl, w2⟩ := open_int Try.underlying3 (hval 2 3 v2 rfl rfl) h2
  clear hA0 hval0
  simp only [List.append_nil] at hW'
  refine (walk a0 a1 a2 W).mono fun e W' ⟨he, bel⟩ => ?_
  subst he
  exact ⟨_, rfl, _, _, _, [], [], [], hW', trodAll_mk1 (shut_bool Try.underlying4 _), (trodAll_cons_mk (shut_int Try.underlying3 w0) (trodAll_cons_mk (shut_int Try.underlying3 w1) (trodAll_cons_mk (shut_int Try.underlying3 w2) trodAll_mk0))), rfl, bel.frame _, fun h => by cases h⟩

theorem over : Rows.diskFaultsRow.holds Try.pinned (OpenSpec.ofChange Rows.diskFaultsSpec) :=
  OpenClaim.holds_of_wide 7 Try.f7 rfl rfl rfl rfl rfl rfl rfl ⟨rfl, rfl, rfl, rfl, rfl⟩ rfl rfl rfl rfl rfl (by kernel_rfl) Try.func7 (by kernel_rfl)
    (of_decide_eq_true (by kernel_rfl)) (by unfold Func.isWrapper; first | (rw [if_pos (by decide +kernel)]; kernel_rfl) | (rw [if_neg (by decide +kernel)]; exact ⟨rfl, rfl⟩))
    (fun os started H enc _ => lifted os started H enc)

/-- The statement. -/
theorem proved : Rows.DiskFaultsSaid :=
  over
#print axioms proved
end Go.Proofs.Yteobkgajebbpaaa.diskFaults

