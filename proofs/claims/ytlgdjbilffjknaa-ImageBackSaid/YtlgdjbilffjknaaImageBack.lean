/-
  The given statement ImageBackSaid is proved: whatever the arguments are, the law returns true and leaves its input as it was. No conditions.
-/
import Derived.Test.YtlgdjbilffjknaaShapes
import Derived.Test.YtlgdjbilffjknaaSlabs
import Derived.Test.YtlgdjbilffjknaaImageAwake
import Derived.Test.YtlgdjbilffjknaaImageBackM
import Derived.Test.YtlgdjbilffjknaaPagedSmall
import Derived.Test.YtlgdjbilffjknaaAlike
import Derived.Test.YtlgdjbilffjknaaOwns
import Derived.Test.YtlgdjbilffjknaaFar
import Derived.WalkKit
import Derived.ProofKit
import Derived.OpenShut
import Derived.ShutString
import Derived.ChangeOld
import Derived.Below
namespace Go.Proofs.Ytlgdjbilffjknaa.imageBack
open Go.ChangeShapes Go.WideShapes Go.ChangeAt Go.RowKit
open Go.ChangeMaps (open_string shut_string)
open Go.Proofs.Ytlgdjbilffjknaa.mem Go.Proofs.Ytlgdjbilffjknaa.base Go.Proofs.Ytlgdjbilffjknaa.im Go.Proofs.Ytlgdjbilffjknaa.pd Go.Proofs.Ytlgdjbilffjknaa.pg Go.Proofs.Ytlgdjbilffjknaa.owns
set_option linter.unusedVariables false

theorem own : ownKnob Try.prog.godebug = none := by kernel_rfl
theorem laidOut : laidOutB Try.prog = true := by kernel_rfl

set_option maxRecDepth 100000 in
set_option maxHeartbeats 12000000 in
theorem walk (a0 : Int) (a1 : Option Addr) (len1 cap1 : Nat) (l1 : List (List Int)) (a2 : Option Addr) (len2 cap2 : Nat) (l2 : List (List Int)) (w : World) (w0 : (Lit.int .i64 a0).wf = true) (w1 : Slab w 3 a1 l1) (e1 : l1.length = len1) (b1 : len1 ≤ cap1 ∧ cap1 ≤ maxLen) (w2 : Slab w 3 a2 l2) (e2 : l2.length = len2) (b2 : len2 ≤ cap2 ∧ cap2 ≤ maxLen) :
    Calls Try.prog 7 #[.int .i64 a0, .slice a1 len1 cap1, .slice a2 len2 cap2] w fun e w' => e = .returned (.bool true) ∧ Below w.heap.size w w' := by
  by_cases hn1 : a0 < 1
  · have hd1 : decide (a0 < 1) = true := decide_eq_true hn1
    clear w1 w2
    go_enter Try.func7, Try.ntmps7
    go_wp2_with fail
    refine (awake_any _).mono ?_
    rintro e w' ⟨rfl, hk⟩
    have HB := hide (hk.below (by simp))
    clear hk
    go_wp2
    go_ret
    exact ⟨rfl, HB.out⟩
  have hd1 : decide (a0 < 1) = false := decide_eq_false hn1
  by_cases hn2 : a0 > 64
  · have hd2 : decide (a0 > 64) = true := decide_eq_true hn2
    clear w1 w2
    go_enter Try.func7, Try.ntmps7
    go_wp2_with fail
    refine (awake_any _).mono ?_
    rintro e w' ⟨rfl, hk⟩
    have HB := hide (hk.below (by simp))
    clear hk
    go_wp2
    go_ret
    exact ⟨rfl, HB.out⟩
  have hd2 : decide (a0 > 64) = false := decide_eq_false hn2
  by_cases hm1 : (len1 : Int) > 40
  · have hd : decide ((len1 : Int) > 40) = true := decide_eq_true hm1
    clear w1 w2
    go_enter Try.func7, Try.ntmps7
    go_wp2_with fail
    refine (awake_any _).mono ?_
    rintro e w' ⟨rfl, hk⟩
    have HB := hide (hk.below (by simp))
    clear hk
    go_wp2
    go_ret
    exact ⟨rfl, HB.out⟩
  have he1 : decide ((len1 : Int) > 40) = false := decide_eq_false hm1
  by_cases hm2 : (len2 : Int) > 40
  · have hd : decide ((len2 : Int) > 40) = true := decide_eq_true hm2
    clear w1 w2
    go_enter Try.func7, Try.ntmps7
    go_wp2_with fail
    refine (awake_any _).mono ?_
    rintro e w' ⟨rfl, hk⟩
    have HB := hide (hk.below (by simp))
    clear hk
    go_wp2
    go_ret
    exact ⟨rfl, HB.out⟩
  have he2 : decide ((len2 : Int) > 40) = false := decide_eq_false hm2
  obtain ⟨n, rfl⟩ : ∃ n : Nat, a0 = (n : Int) := ⟨a0.toNat, by omega⟩
  have hb1 : 1 ≤ n := by omega
  have hb2 : n ≤ 64 := by omega
  have hb3 : len1 ≤ 40 := by omega
  have hb4 : len2 ≤ 40 := by omega
  have HSL := hide w1
  have HE1 := hide e1
  have HSL2 := hide w2
  have HE2 := hide e2
  clear w1 e1 w2 e2 hn1 hn2 hm1 hm2
  go_enter Try.func7, Try.ntmps7
  go_wp2_with fail
  refine (inew_yes n _ hb1 hb2).mono ?_
  rintro e wA ⟨X, rfl, hxn, hi, hk⟩
  have HXN := hide hxn
  have HIA := hide hi
  have HKA := hide hk
  clear hxn hi hk
  go_wp2_with fail
  refine (inew_yes n _ hb1 hb2).mono ?_
  rintro e wB ⟨Y, rfl, hyn, hi, hk⟩
  have HYN := hide (show ∀ y ∈ Y.all, w.heap.size ≤ y from fun y hy => Nat.le_trans HKA.out.size (hyn y hy))
  have HXY := hide (show ∀ y ∈ X.all, y ∉ Y.all from fun y hy hm => by have := HIA.out.lt y hy; have := hyn y hm; omega)
  have HIY := hide hi
  have HIX := hide (HIA.out.keep hk)
  have HK := hide (HKA.out.trans hk (by simp))
  clear hyn hi hk
  have HTU := hide (show ∀ (Z : Ib), (∀ y ∈ Z.all, w.heap.size ≤ y) → ∀ (S : List Nat) (W1 W2 : World), Kept [] w W1 → Kept S W1 W2 → (∀ y ∈ S, y ∈ Z.all) → Kept [] w W2 from fun Z hz S W1 W2 k1 k2 hs => k1.trans k2 (fun y hy => .inr (hz y (hs y hy))))
  have HOY := hide (show ∀ (S : List Nat) (W1 W2 : World) (N : Im), IAt W1 Y N → Kept S W1 W2 → (∀ y ∈ S, y ∈ X.all) → IAt W2 Y N from fun S W1 W2 N h k hs => h.kept k (fun y hy hm => HXY.out y (hs y hm) hy))
  have HOX := hide (show ∀ (S : List Nat) (W1 W2 : World) (N : Im), IAt W1 X N → Kept S W1 W2 → (∀ y ∈ S, y ∈ Y.all) → IAt W2 X N from fun S W1 W2 N h k hs => h.kept k (fun y hy hm => HXY.out y hy (hs y hm)))
  go_wp2
  go_loopw [6, 9, 10, 11, 12, 13, 14, 15] (fun _ i _ _ _ _ _ _ wr => ∃ (T : Nat) (M N : Im), T ≤ 2 ∧ i = .int .i64 T ∧ Hid (IAt wr X M) ∧ Hid (IAt wr Y N) ∧ Hid (BkI n (100 * (T : Int)) M N) ∧ Hid (Kept [] w wr)) (fun _ i _ _ _ _ _ _ _ => 2 - (intOf i).toNat)
  case atStart => exact ⟨0, Im.fresh n, Im.fresh n, by omega, rfl, HIX, HIY, hide BkI.fresh, HK⟩
  case round =>
    obtain ⟨T, M, N, hT, rfl, HM, HN, HBK, HKR⟩ := hrel
    by_cases hT2 : T < 2
    · have hdT : decide ((T : Int) < 2) = true := decide_eq_true (by omega)
      have hwm : IntKind.i64.wrap (100 * (T : Int)) = 100 * (T : Int) := by rw [IntKind.wrap_i64]; omega
      by_cases hT1 : T = 1
      · have hq : ((T : Int) == 1) = true := by rw [beq_iff_eq]; omega
        clear hT1
        go_wp2
        go_loopw [11, 12] (fun i k wr => ∃ (j : Nat) (M2 : Im), j ≤ len2 ∧ i = .int .i64 j ∧ Hid (IAt wr X M2) ∧ Hid (IAt wr Y N) ∧ Hid (BkI n (100 * (T : Int) + j) M2 N) ∧ Hid (Kept [] w wr)) (fun i _ _ => len2 - (intOf i).toNat)
        case atStart => exact ⟨0, M, Nat.zero_le _, rfl, HM, HN, hide (by simpa using HBK.out), HKR⟩
        case round =>
          clear HM HN HBK HKR
          obtain ⟨j, M2, hj, rfl, HM2, HN2, HBJ, HKJ⟩ := hrel
          have HLN := hide HBJ.out.mv.1.1
          by_cases hlt : j < len2
          · obtain ⟨ad, kd, bb, nn, rfl, _, q0, q1, q2⟩ := deed_at HSL2.out (i := j) (by rw [HE2.out]; exact hlt)
            have hnx : ∀ (p : Addr) (v : Value), w.cell? p = some v → wr.cell? p = some v := fun p v hc => HKJ.out.cell hc (by simp)
            have r0 := hnx _ _ q0
            have r1 := hnx _ _ q1
            clear q0 q1 q2 hnx
            obtain ⟨k, hk0⟩ : ∃ k : Nat, bb % (n : Int) = (k : Int) := ⟨(bb % (n : Int)).toNat, by have := Int.emod_nonneg bb (b := (n : Int)) (by omega); omega⟩
            have hkn : k < n := by have := Int.emod_lt_of_pos bb (b := (n : Int)) (by omega); omega
            have hkM : k < M2.b.l.length := by rw [HLN.out]; exact hkn
            have HKE := hide hk0
            clear hk0
            have hwa : IntKind.i64.wrap (100 * (T : Int) + j) = 100 * (T : Int) + j := by rw [IntKind.wrap_i64]; omega
            have hwb : IntKind.i64.wrap (100 * (T : Int) + j + 1) = 100 * (T : Int) + j + 1 := by rw [IntKind.wrap_i64]; omega
            go_wp2_with fail
            refine (round_any bb n _ (by omega) (by omega)).mono ?_
            rintro e w' ⟨rfl, rfl⟩
            rw [HKE.out]
            by_cases h1 : kd = 1
            · subst h1
              go_wp2_with fail
              refine (iwrite_yes HM2.out k (100 * (T : Int) + j + 1) hkM (by omega) (by omega)).mono ?_
              rintro e w2 ⟨rfl, hi, hk⟩
              have HI2 := hide hi
              have HIN2 := hide (HOY.out _ _ _ _ HN2.out hk (by obtain ⟨m1, m2, m3⟩ := X.tmem true; simp; exact ⟨m2, m3⟩))
              have HK2 := hide (HTU.out X HXN.out _ _ _ HKJ.out hk (by obtain ⟨m1, m2, m3⟩ := X.tmem true; simp; exact ⟨m2, m3⟩))
              have HB2 := hide (HBJ.out.put (by omega) true k)
              clear hi hk
              go_wp2
              go_roundw
              case rel => exact ⟨j + 1, _, by omega, by go_num, HI2, HIN2, hide (by rw [show (100 * (T : Int) + ((j + 1 : Nat) : Int)) = 100 * (T : Int) + j + 1 by omega]; exact HB2.out), HK2⟩
              case measure => simp [intOf]; omega
            have d1 : (kd == 1) = false := beq_eq_false_iff_ne.2 h1
            clear h1
            by_cases h2 : kd = 2
            · subst h2
              go_wp2_with fail
              refine (itrim_yes HM2.out k 1 (by decide) (by omega)).mono ?_
              rintro e w2 ⟨v, rfl, ho, hi, hk⟩
              have HI2 := hide hi
              have HIN2 := hide (HOY.out _ _ _ _ HN2.out hk (by obtain ⟨m1, m2, m3⟩ := X.tmem true; simp; exact ⟨m2, m3⟩))
              have HK2 := hide (HTU.out X HXN.out _ _ _ HKJ.out hk (by obtain ⟨m1, m2, m3⟩ := X.tmem true; simp; exact ⟨m2, m3⟩))
              have HB2 := hide (HBJ.out.drop (by omega) true k 1)
              clear hi hk
              go_wp2
              go_roundw
              case rel => exact ⟨j + 1, _, by omega, by go_num, HI2, HIN2, hide (by rw [show (100 * (T : Int) + ((j + 1 : Nat) : Int)) = 100 * (T : Int) + j + 1 by omega]; exact HB2.out), HK2⟩
              case measure => simp [intOf]; omega
            have d2 : (kd == 2) = false := beq_eq_false_iff_ne.2 h2
            clear h2
            by_cases h3 : kd = 3
            · subst h3
              go_wp2_with fail
              refine (commit_any HM2.out).mono ?_
              rintro e w2 ⟨v, rfl, ho, hi, hk⟩
              have HI2 := hide hi
              have HIN2 := hide (HOY.out _ _ _ _ HN2.out hk (by obtain ⟨m1, m2, m3, m4, m5, m6, m7⟩ := X.mem; simp; exact ⟨m3, m4, m6, m7⟩))
              have HK2 := hide (HTU.out X HXN.out _ _ _ HKJ.out hk (by obtain ⟨m1, m2, m3, m4, m5, m6, m7⟩ := X.mem; simp; exact ⟨m3, m4, m6, m7⟩))
              have HB2 := hide (HBJ.out.commit (by omega))
              clear hi hk
              go_wp2
              go_roundw
              case rel => exact ⟨j + 1, _, by omega, by go_num, HI2, HIN2, hide (by rw [show (100 * (T : Int) + ((j + 1 : Nat) : Int)) = 100 * (T : Int) + j + 1 by omega]; exact HB2.out), HK2⟩
              case measure => simp [intOf]; omega
            have d3 : (kd == 3) = false := beq_eq_false_iff_ne.2 h3
            clear h3
            by_cases h5 : kd = 5
            · subst h5
              go_wp2_with fail
              refine (iput_yes HM2.out k (100 * (T : Int) + j + 1) hkM (by omega) (by omega)).mono ?_
              rintro e w2 ⟨rfl, hi, hk⟩
              have HI2 := hide hi
              have HIN2 := hide (HOY.out _ _ _ _ HN2.out hk (by obtain ⟨m1, m2, m3⟩ := X.tmem false; simp; exact ⟨m2, m3⟩))
              have HK2 := hide (HTU.out X HXN.out _ _ _ HKJ.out hk (by obtain ⟨m1, m2, m3⟩ := X.tmem false; simp; exact ⟨m2, m3⟩))
              have HB2 := hide (HBJ.out.put (by omega) false k)
              clear hi hk
              go_wp2
              go_roundw
              case rel => exact ⟨j + 1, _, by omega, by go_num, HI2, HIN2, hide (by rw [show (100 * (T : Int) + ((j + 1 : Nat) : Int)) = 100 * (T : Int) + j + 1 by omega]; exact HB2.out), HK2⟩
              case measure => simp [intOf]; omega
            have d5 : (kd == 5) = false := beq_eq_false_iff_ne.2 h5
            clear h5
            have HB2 := hide (HBJ.out.mono (c' := 100 * (T : Int) + j + 1) (by omega))
            go_wp2
            go_roundw
            case rel => exact ⟨j + 1, _, by omega, by go_num, HM2, HN2, hide (by rw [show (100 * (T : Int) + ((j + 1 : Nat) : Int)) = 100 * (T : Int) + j + 1 by omega]; exact HB2.out), HKJ⟩
            case measure => simp [intOf]; omega
          · obtain rfl : j = len2 := by omega
            have HMV := hide HBJ.out.mv
            have HBQ0 := hide HBJ.out.start
            have HMO := hide HBJ.out.mv.1
            clear HBJ HLN
            go_wp2
            go_loopw [6, 13, 14, 15] (fun _ kk pg ii wr => ∃ (q : Nat) (N2 : Im), q ≤ 2 ∧ kk = .int .i64 q ∧ Hid (IAt wr X M2) ∧ Hid (IAt wr Y N2) ∧ Hid (BkQ n M2 N2 q) ∧ Hid (Kept [] w wr)) (fun _ kk _ _ _ => 2 - (intOf kk).toNat)
            case atStart => exact ⟨0, N, by omega, rfl, HM2, HN2, HBQ0, HKJ⟩
            case round =>
              clear HM2 HN2 HKJ HBQ0
              obtain ⟨q, N2, hq2, rfl, HM2, HN2, HBQ, HKJ⟩ := hrel
              by_cases hql : q < 2
              · have hdq : decide ((q : Int) < 2) = true := decide_eq_true (by omega)
                obtain ⟨ov, hov⟩ : ∃ ov, ((q : Int) == 1) = ov := ⟨_, rfl⟩
                have HOV := hide (show ov = decide (q = 1) from by rw [← hov]; rw [Bool.eq_iff_iff]; simp; omega)
                have HDL := hide (HM2.out.dl HMO.out ov)
                go_wp2_with fail
                refine (dirty_any HM2.out ov 99 (by decide)).mono ?_
                rintro e w1 ⟨v1, rfl, ho1, hk1⟩
                obtain ⟨A1, c1, rfl, hc1, hrd⟩ := own_read ho1
                have HPL := hide (dirt_length HM2.out ov)
                have HV1 := hide (hrd Y.all (fun y hy => .inl (HN2.out.lt y hy)))
                have HMd := hide (HM2.out.keep hk1)
                have HNd := hide (HN2.out.keep hk1)
                have HKd := hide (HKJ.out.trans hk1 (by simp))
                have HP0 := hide (HBQ.out.first HMO.out ov)
                have HPM := hide (fun (p : Nat) (hp : p ∈ M2.dirt ov) => dirt_lt hp)
                obtain ⟨ps, hps⟩ : ∃ ps, M2.dirt ov = ps := ⟨_, rfl⟩
                have HPS := hide hps
                rw [hps] at HPL HV1 HPM
                simp only [hps]
                clear ho1 hk1 hrd hps
                go_wp2
                go_loopw [6, 15] (fun _ ii wr => ∃ (s : Nat) (u : Tb), s ≤ ps.length ∧ ii = .int .i64 s ∧ Hid (IAt wr X M2) ∧ Hid (IAt wr Y (N2.put ov u)) ∧ Hid (BkP n (M2.tb ov) u (ps.take s)) ∧ Hid (Vals wr Y.all A1 (cellsN ps)) ∧ Hid (Kept [] w wr)) (fun _ ii _ => ps.length - (intOf ii).toNat)
                case atStart => exact ⟨0, N2.tb ov, Nat.zero_le _, rfl, HMd, hide (by rw [put_tb]; exact HNd.out), HP0, HV1, HKd⟩
                case round =>
                  clear HMd HNd HKd HV1 HP0 HM2 HN2 HKJ
                  obtain ⟨s, u, hs, rfl, HMs, HNs, HPs, HVs, HKs⟩ := hrel
                  have hpl := HPL.out
                  by_cases hsl : s < ps.length
                  · obtain ⟨pg, hpg⟩ : ∃ pg, ps[s]? = some pg := ⟨_, List.getElem?_eq_getElem hsl⟩
                    obtain ⟨ad1, rfl, _, pc⟩ := HVs.out s _ (cellsN_at hpg)
                    have hpd := HPM.out pg (List.mem_of_getElem? hpg)
                    have HPG := hide hpg
                    have HPD := hide hpd
                    have hpn : pg < (n + 15 - 1) / 15 := by rw [← HDL.out]; exact hpd
                    obtain ⟨b, hb⟩ : ∃ b, pg * 15 = b := ⟨_, rfl⟩
                    obtain ⟨m, hm⟩ : ∃ m, min (b + 15) n - b = m := ⟨_, rfl⟩
                    have HPN := hide (show pg < (n + 15 - 1) / 15 ∧ pg * 15 = b ∧ min (b + 15) n - b = m ∧ b < n from ⟨hpn, hb, hm, by omega⟩)
                    have HXL := hide (show (((M2.tb ov).l.drop b).take m).length = m from by rw [List.length_take, List.length_drop, of_tb HMO.out ov]; omega)
                    have HOKP := hide (page_ok HMV.out (by omega) ov b m)
                    have HMr := hide (HMs.out.keep ((Kept.refl [] wr).drew))
                    have HNr := hide (HNs.out.keep ((Kept.refl [] wr).drew))
                    have HVr := hide (HVs.out.kept ((Kept.refl [] wr).drew) (by simp))
                    have HKr := hide (HKs.out.trans ((Kept.refl [] wr).drew) (by simp))
                    have HNO := hide (show (N2.put ov u).of n from of_put HBQ.out.of_ ov HPs.out.len)
                    have pcd : wr.drew.cell? (ad1.add s) = some (.int .i64 (pg : Int)) := pc
                    clear hpg hpd hpn hb hm HMs HNs HVs HKs
                    go_wp2
                    refine wp_region_noPanic ?_
                    refine wp_region_held_drew (S := fun W => W.cell? (ad1.add s) = some (.int .i64 (pg : Int))) (by kernel_rfl) (by exact pcd) (fun hHeld => ?_)
                    refine wpAnyH_take (i := 0) (oi := ⟨some 112, _, _, _, _, _⟩) (v := ?v1) rfl (by kernel_rfl) (by kernel_rfl) (by kernel_rfl) (fun _ _ _ h => h) (Or.inl ⟨by rfl, ?hy1⟩) (by assumption) ?rest1
                    case hy1 => (intro W hSw; (try dsimp only at hSw); go_simp; try with_reducible rfl)
                    try simp only [Act.put, List.setIfInBounds_toArray, List.set_cons_zero, List.set_cons_succ]
                    refine wpAnyH_take (i := 1) (oi := ⟨some 113, _, _, _, _, _⟩) (v := ?v2) rfl (by kernel_rfl) (by kernel_rfl) (by kernel_rfl) (fun _ _ _ h => h) (Or.inl ⟨by rfl, ?hy2⟩) (by assumption) ?rest2
                    case hy2 => (intro W hSw; (try dsimp only at hSw); go_simp; try with_reducible rfl)
                    try simp only [Act.put, List.setIfInBounds_toArray, List.set_cons_zero, List.set_cons_succ]
                    refine wpAnyH_take (i := 2) (oi := ⟨some 114, _, _, _, _, _⟩) (v := ?v3) rfl (by kernel_rfl) (by kernel_rfl) (by kernel_rfl) (fun _ _ _ h => h) (Or.inl ⟨by rfl, ?hy3⟩) (by assumption) ?rest3
                    case hy3 => (intro W hSw; (try dsimp only at hSw); go_simp; try with_reducible rfl)
                    try simp only [Act.put, List.setIfInBounds_toArray, List.set_cons_zero, List.set_cons_succ]
                    refine wpAnyH_take (i := 3) (oi := ⟨some 115, _, _, _, _, _⟩) (v := ?v4) rfl (by kernel_rfl) (by kernel_rfl) (by kernel_rfl) (fun _ _ _ h => h) (Or.inl ⟨by rfl, ?hy4⟩) (by assumption) ?rest4
                    case hy4 => (intro W hSw; (try dsimp only at hSw); go_simp; try with_reducible rfl)
                    try simp only [Act.put, List.setIfInBounds_toArray, List.set_cons_zero, List.set_cons_succ]
                    refine wpAnyH_take (i := 4) (oi := ⟨some 116, _, _, _, _, _⟩) (v := ?v5) rfl (by kernel_rfl) (by kernel_rfl) (by kernel_rfl) (fun _ _ _ h => h) (Or.inl ⟨by rfl, ?hy5⟩) (by assumption) ?rest5
                    case hy5 => (intro W hSw; (try dsimp only at hSw); go_simp; try with_reducible rfl)
                    try simp only [Act.put, List.setIfInBounds_toArray, List.set_cons_zero, List.set_cons_succ]
                    refine wpAnyH_take (i := 5) (oi := ⟨some 117, _, _, _, _, _⟩) (v := ?v6) rfl (by kernel_rfl) (by kernel_rfl) (by kernel_rfl) (fun _ _ _ h => h) (Or.inl ⟨by rfl, ?hy6⟩) (by assumption) ?rest6
                    case hy6 => (intro W hSw; (try dsimp only at hSw); go_simp; try with_reducible rfl)
                    try simp only [Act.put, List.setIfInBounds_toArray, List.set_cons_zero, List.set_cons_succ]
                    refine wpAnyH_take (i := 6) (oi := ⟨some 118, _, _, _, _, _⟩) (v := ?v7) rfl (by kernel_rfl) (by kernel_rfl) (by kernel_rfl) (fun _ _ _ h => h) (Or.inl ⟨by rfl, ?hy7⟩) (by assumption) ?rest7
                    case hy7 => (intro W hSw; (try dsimp only at hSw); go_simp; try with_reducible rfl)
                    try simp only [Act.put, List.setIfInBounds_toArray, List.set_cons_zero, List.set_cons_succ]
                    refine wpAnyH_take (i := 7) (oi := ⟨some 119, _, _, _, _, _⟩) (v := ?v8) rfl (by kernel_rfl) (by kernel_rfl) (by kernel_rfl) (fun _ _ _ h => h) (Or.inl ⟨by rfl, ?hy8⟩) (by assumption) ?rest8
                    case hy8 => (intro W hSw; (try dsimp only at hSw); go_simp; try with_reducible rfl)
                    try simp only [Act.put, List.setIfInBounds_toArray, List.set_cons_zero, List.set_cons_succ]
                    refine wpAnyH_take (i := 8) (oi := ⟨some 120, _, _, _, _, _⟩) (v := ?v9) rfl (by kernel_rfl) (by kernel_rfl) (by kernel_rfl) (fun _ _ _ h => h) (Or.inl ⟨by rfl, ?hy9⟩) (by assumption) ?rest9
                    case hy9 => (intro W hSw; (try dsimp only at hSw); go_simp; try with_reducible rfl)
                    try simp only [Act.put, List.setIfInBounds_toArray, List.set_cons_zero, List.set_cons_succ]
                    refine wpAnyH_take (i := 9) (oi := ⟨some 121, _, _, _, _, _⟩) (v := ?v10) rfl (by kernel_rfl) (by kernel_rfl) (by kernel_rfl) (fun _ _ _ h => h) (Or.inl ⟨by rfl, ?hy10⟩) (by assumption) ?rest10
                    case hy10 => (intro W hSw; (try dsimp only at hSw); go_simp; try with_reducible rfl)
                    try simp only [Act.put, List.setIfInBounds_toArray, List.set_cons_zero, List.set_cons_succ]
                    refine wpAnyH_take (i := 10) (oi := ⟨some 122, _, _, _, _, _⟩) (v := ?v11) rfl (by kernel_rfl) (by kernel_rfl) (by kernel_rfl) (fun _ _ _ h => h) (Or.inl ⟨by rfl, ?hy11⟩) (by assumption) ?rest11
                    case hy11 => (intro W hSw; (try dsimp only at hSw); go_simp; try with_reducible rfl)
                    try simp only [Act.put, List.setIfInBounds_toArray, List.set_cons_zero, List.set_cons_succ]
                    refine wpAnyH_take (i := 11) (oi := ⟨some 123, _, _, _, _, _⟩) (v := ?v12) rfl (by kernel_rfl) (by kernel_rfl) (by kernel_rfl) (fun _ _ _ h => h) (Or.inl ⟨by rfl, ?hy12⟩) (by assumption) ?rest12
                    case hy12 => (intro W hSw; (try dsimp only at hSw); go_simp; try with_reducible rfl)
                    try simp only [Act.put, List.setIfInBounds_toArray, List.set_cons_zero, List.set_cons_succ]
                    refine wpAnyH_take (i := 12) (oi := ⟨some 124, _, _, _, _, _⟩) (v := ?v13) rfl (by kernel_rfl) (by kernel_rfl) (by kernel_rfl) (fun _ _ _ h => h) (Or.inl ⟨by rfl, ?hy13⟩) (by assumption) ?rest13
                    case hy13 => (intro W hSw; (try dsimp only at hSw); go_simp; try with_reducible rfl)
                    try simp only [Act.put, List.setIfInBounds_toArray, List.set_cons_zero, List.set_cons_succ]
                    refine wpAnyH_take (i := 13) (oi := ⟨some 125, _, _, _, _, _⟩) (v := ?v14) rfl (by kernel_rfl) (by kernel_rfl) (by kernel_rfl) (fun _ _ _ h => h) (Or.inl ⟨by rfl, ?hy14⟩) (by assumption) ?rest14
                    case hy14 => (intro W hSw; (try dsimp only at hSw); go_simp; try with_reducible rfl)
                    try simp only [Act.put, List.setIfInBounds_toArray, List.set_cons_zero, List.set_cons_succ]
                    refine held_one (i := 14) (o := ⟨some 126, _, _, _, _, _⟩) rfl (by kernel_rfl) (by rfl) (fun K hK => ?_)
                    go_simp
                    refine (ipage_yes HMr.out ov pg HPD.out b m HPN.out.2.1 (by rw [HMO.out.1]; exact HPN.out.2.2.1)).mono ?_
                    rintro e1 W3 ⟨v3, rfl, ho3, hk3⟩
                    obtain ⟨A3, c3, rfl, hc3, hv3⟩ := row_read ho3
                    have HM3 := hide (HMr.out.keep hk3)
                    have HN3 := hide (HNr.out.keep hk3)
                    have HV3 := hide hv3
                    have HVp := hide (HVr.out.kept hk3 (by simp))
                    have HK3 := hide (HKr.out.trans hk3 (by simp))
                    have pc3 := hk3.cell pcd (by simp)
                    clear ho3 hk3 hv3
                    refine hK.out _ _ (by exact pc3) (fun hHeld => ?_)
                    clear hK K
                    try simp only [Act.put, List.setIfInBounds_toArray, List.set_cons_zero, List.set_cons_succ]
                    refine held_one (i := 15) (o := ⟨some 127, _, _, _, _, _⟩) rfl (by kernel_rfl) (by rfl) (fun K hK => ?_)
                    go_simp
                    refine (iload_any HN3.out ov pg (by rw [HN3.out.dl HNO.out ov]; exact HPN.out.1) b m HPN.out.2.1 (by rw [HNO.out.1]; exact HPN.out.2.2.1) A3 m c3 hc3 (Nat.le_refl _) (((M2.tb ov).l.drop b).take m) HXL.out HV3.out).mono ?_
                    rw [List.take_of_length_le (Nat.le_of_eq HXL.out), HOKP.out]
                    rintro e2 W4 ⟨rfl, hp4⟩
                    unfold LoadPost at hp4
                    rw [if_pos rfl, put_put, tb_put] at hp4
                    obtain ⟨hi4, hk4⟩ := hp4
                    have HM4 := hide (HOX.out _ _ _ _ HM3.out hk4 (by obtain ⟨m1, m2, m3⟩ := Y.tmem ov; simp; exact ⟨m2, m3⟩))
                    have HN4 := hide hi4
                    have HV4 := hide (HVp.out.kept hk4 (by obtain ⟨m1, m2, m3⟩ := Y.tmem ov; simp; exact ⟨m2, m3⟩))
                    have HK4 := hide (HTU.out Y HYN.out _ _ _ HK3.out hk4 (by obtain ⟨m1, m2, m3⟩ := Y.tmem ov; simp; exact ⟨m2, m3⟩))
                    have pc4 : W4.cell? (ad1.add s) = some (.int .i64 (pg : Int)) := by obtain ⟨ad, e, _, h⟩ := HV4.out s _ (cellsN_at HPG.out); cases e; exact h
                    clear hi4 hk4
                    refine hK.out _ _ (by exact pc4) (fun hHeld => ?_)
                    clear hK K
                    try simp only [Act.put, List.setIfInBounds_toArray, List.set_cons_zero, List.set_cons_succ]
                    refine wpAnyH_take (i := 16) (oi := ⟨some 128, _, _, _, _, _⟩) (v := ?v15) rfl (by kernel_rfl) (by kernel_rfl) (by kernel_rfl) (fun _ _ _ h => h) (Or.inl ⟨by rfl, ?hy15⟩) (by assumption) ?rest15
                    case hy15 => (intro W hSw; (try dsimp only at hSw); go_simp; try with_reducible rfl)
                    try simp only [Act.put, List.setIfInBounds_toArray, List.set_cons_zero, List.set_cons_succ]
                    refine wpAnyH_done (by kernel_rfl) ?_ _
                    refine NoPanic.normal ?_
                    have HP4 := hide (HPs.out.more (of_tb HMO.out ov) pg b m HPN.out.2.1 HPN.out.2.2.1 HPN.out.2.2.2)
                    have HTK := hide (show ps.take (s + 1) = ps.take s ++ [pg] from by rw [List.take_add_one, HPG.out]; rfl)
                    go_wp2
                    go_roundw
                    case rel => exact ⟨s + 1, _, by omega, by go_num, HM4, HN4, hide (by rw [HTK.out]; exact HP4.out), HV4, HK4⟩
                    case measure => simp [intOf]; omega
                  · obtain rfl : s = ps.length := by omega
                    have HP5 := hide (show BkP n (M2.tb ov) u (M2.dirt ov) from by have := HPs.out; rw [List.take_of_length_le (Nat.le_refl _)] at this; rw [HPS.out]; exact this)
                    have HQ5 := hide (HBQ.out.next HMO.out hql ov HOV.out HDL.out HP5.out)
                    go_wp2
                    go_roundw
                    case rel => exact ⟨q + 1, _, by omega, by go_num, HMs, HNs, HQ5, HKs⟩
                    case measure => simp [intOf]; omega
              · obtain rfl : q = 2 := by omega
                have HTD := hide (BkI.turned HMV.out HBQ.out.of_ (HBQ.out.fb (by omega)) (HBQ.out.fo (by omega)) HBQ.out.cb HBQ.out.co)
                go_wp2_with fail
                refine (clean_any HM2.out).mono ?_
                rintro e w1 ⟨rfl, hi, hk⟩
                have HM3 := hide (show IAt w1 X M2.clean from hi)
                have HN3 := hide (HOY.out _ _ _ _ HN2.out hk (by obtain ⟨m1, m2, m3, m4, m5, m6, m7⟩ := X.mem; simp; exact ⟨m4, m7⟩))
                have HK3 := hide (HTU.out X HXN.out _ _ _ HKJ.out hk (by obtain ⟨m1, m2, m3, m4, m5, m6, m7⟩ := X.mem; simp; exact ⟨m4, m7⟩))
                clear hi hk
                have HDM := hide (show ∀ (ov : Bool) (W : World), IAt W X M2.clean → Calls Try.prog 36 #[.pointer (some ⟨X.m, 0, none⟩), .bool ov, .int .i64 9] W fun e w' => ∃ A c, e = .returned (.slice A 0 c) ∧ Kept [] W w' from fun ov W hi => (dirty_any hi ov 9 (by decide)).mono (by
                  rintro e w' ⟨v, rfl, ho, hk⟩
                  rw [show M2.clean.dirt ov = [] from by cases ov; exact HTD.out.2.2.2.1; exact HTD.out.2.2.2.2.1] at ho
                  obtain ⟨A, c, rfl, _, _⟩ := own_read ho
                  exact ⟨A, c, rfl, hk⟩))
                have HDN := hide (show ∀ (ov : Bool) (W : World), IAt W Y N2 → Calls Try.prog 36 #[.pointer (some ⟨Y.m, 0, none⟩), .bool ov, .int .i64 9] W fun e w' => ∃ A c, e = .returned (.slice A 0 c) ∧ Kept [] W w' from fun ov W hi => (dirty_any hi ov 9 (by decide)).mono (by
                  rintro e w' ⟨v, rfl, ho, hk⟩
                  rw [show N2.dirt ov = [] from by cases ov; exact HTD.out.2.2.2.2.2.1; exact HTD.out.2.2.2.2.2.2] at ho
                  obtain ⟨A, c, rfl, _, _⟩ := own_read ho
                  exact ⟨A, c, rfl, hk⟩))
                have HRL := hide (refsL_length HM3.out)
                clear HM2 HN2 HKJ HBQ HMV HMO
                go_wp2_with fail
                refine (HDM.out false _ HM3.out).mono ?_
                rintro e w3 ⟨_, _, rfl, hk⟩
                have HM4 := hide (HM3.out.keep hk)
                have HN4 := hide (HN3.out.keep hk)
                have HK4 := hide (HK3.out.trans hk (by simp))
                clear hk
                go_wp2_with fail
                refine (HDM.out true _ HM4.out).mono ?_
                rintro e w4 ⟨_, _, rfl, hk⟩
                have HM5 := hide (HM4.out.keep hk)
                have HN5 := hide (HN4.out.keep hk)
                have HK5 := hide (HK4.out.trans hk (by simp))
                clear hk
                go_wp2_with fail
                refine (HDN.out false _ HN5.out).mono ?_
                rintro e w5 ⟨_, _, rfl, hk⟩
                have HM6 := hide (HM5.out.keep hk)
                have HN6 := hide (HN5.out.keep hk)
                have HK6 := hide (HK5.out.trans hk (by simp))
                clear hk
                go_wp2_with fail
                refine (HDN.out true _ HN6.out).mono ?_
                rintro e w6 ⟨_, _, rfl, hk⟩
                have HM7 := hide (HM6.out.keep hk)
                have HN7 := hide (HN6.out.keep hk)
                have HK7 := hide (HK6.out.trans hk (by simp))
                clear hk
                go_wp2_with fail
                refine (refs_any HM7.out 300 (by decide)).mono ?_
                rintro e w8 ⟨v8, rfl, ho, hk⟩
                obtain ⟨A8, c8, rfl, _, hv⟩ := row_read ho
                have HV8 := hide hv
                have HM8 := hide (HM7.out.keep hk)
                have HN8 := hide (HN7.out.keep hk)
                have HK8 := hide (HK7.out.trans hk (by simp))
                clear hk ho hv
                go_wp2_with fail
                refine (refs_any HN8.out 300 (by decide)).mono ?_
                rintro e w9 ⟨v9, rfl, ho, hk⟩
                obtain ⟨A9, c9, rfl, _, hv⟩ := row_read ho
                have HV9 := hide hv
                rw [← HTD.out.2.1] at HV9
                have HV8b := hide (HV8.out.kept hk (by simp))
                have HM9 := hide (HM8.out.keep hk)
                have HN9 := hide (HN8.out.keep hk)
                have HK9 := hide (HK8.out.trans hk (by simp))
                clear hk ho hv
                rw [← HTD.out.2.1]
                go_wp2_with fail
                refine (like_any A8 A9 (refsL M2.clean).length c8 c9 (refsL M2.clean) _ rfl HV8b.out HV9.out (by have := HRL.out; omega)).mono ?_
                rintro e w10 ⟨rfl, hk⟩
                have HM10 := hide (HM9.out.keep hk)
                have HN10 := hide (HN9.out.keep hk)
                have HK10 := hide (HK9.out.trans hk (by simp))
                clear hk
                go_wp2_with fail
                refine (pending_any HM10.out).mono ?_
                rintro e w11 ⟨rfl, hk⟩
                have HM11 := hide (HM10.out.keep hk)
                have HN11 := hide (HN10.out.keep hk)
                have HK11 := hide (HK10.out.trans hk (by simp))
                clear hk
                go_wp2_with fail
                refine (pending_any HN11.out).mono ?_
                rintro e w12 ⟨rfl, hk⟩
                rw [← HTD.out.2.2.1]
                have HM12 := hide (HM11.out.keep hk)
                have HN12 := hide (HN11.out.keep hk)
                have HK12 := hide (HK11.out.trans hk (by simp))
                clear hk
                have HBE := hide (HTD.out.1.mono (c' := 100 * ((T + 1 : Nat) : Int)) (by omega))
                obtain ⟨pl, hpl⟩ : ∃ pl, (pendL M2.clean.o.l).length = pl := ⟨_, rfl⟩
                simp only [hpl]
                go_wp2
                go_roundw
                case rel => exact ⟨T + 1, _, _, by omega, by go_num, HM12, HN12, HBE, HK12⟩
                case measure => simp [intOf]; omega
      · have hq : ((T : Int) == 1) = false := by rw [beq_eq_false_iff_ne]; omega
        clear hT1
        go_wp2
        go_loopw [11, 12] (fun i k wr => ∃ (j : Nat) (M2 : Im), j ≤ len1 ∧ i = .int .i64 j ∧ Hid (IAt wr X M2) ∧ Hid (IAt wr Y N) ∧ Hid (BkI n (100 * (T : Int) + j) M2 N) ∧ Hid (Kept [] w wr)) (fun i _ _ => len1 - (intOf i).toNat)
        case atStart => exact ⟨0, M, Nat.zero_le _, rfl, HM, HN, hide (by simpa using HBK.out), HKR⟩
        case round =>
          clear HM HN HBK HKR
          obtain ⟨j, M2, hj, rfl, HM2, HN2, HBJ, HKJ⟩ := hrel
          have HLN := hide HBJ.out.mv.1.1
          by_cases hlt : j < len1
          · obtain ⟨ad, kd, bb, nn, rfl, _, q0, q1, q2⟩ := deed_at HSL.out (i := j) (by rw [HE1.out]; exact hlt)
            have hnx : ∀ (p : Addr) (v : Value), w.cell? p = some v → wr.cell? p = some v := fun p v hc => HKJ.out.cell hc (by simp)
            have r0 := hnx _ _ q0
            have r1 := hnx _ _ q1
            clear q0 q1 q2 hnx
            obtain ⟨k, hk0⟩ : ∃ k : Nat, bb % (n : Int) = (k : Int) := ⟨(bb % (n : Int)).toNat, by have := Int.emod_nonneg bb (b := (n : Int)) (by omega); omega⟩
            have hkn : k < n := by have := Int.emod_lt_of_pos bb (b := (n : Int)) (by omega); omega
            have hkM : k < M2.b.l.length := by rw [HLN.out]; exact hkn
            have HKE := hide hk0
            clear hk0
            have hwa : IntKind.i64.wrap (100 * (T : Int) + j) = 100 * (T : Int) + j := by rw [IntKind.wrap_i64]; omega
            have hwb : IntKind.i64.wrap (100 * (T : Int) + j + 1) = 100 * (T : Int) + j + 1 := by rw [IntKind.wrap_i64]; omega
            go_wp2_with fail
            refine (round_any bb n _ (by omega) (by omega)).mono ?_
            rintro e w' ⟨rfl, rfl⟩
            rw [HKE.out]
            by_cases h1 : kd = 1
            · subst h1
              go_wp2_with fail
              refine (iwrite_yes HM2.out k (100 * (T : Int) + j + 1) hkM (by omega) (by omega)).mono ?_
              rintro e w2 ⟨rfl, hi, hk⟩
              have HI2 := hide hi
              have HIN2 := hide (HOY.out _ _ _ _ HN2.out hk (by obtain ⟨m1, m2, m3⟩ := X.tmem true; simp; exact ⟨m2, m3⟩))
              have HK2 := hide (HTU.out X HXN.out _ _ _ HKJ.out hk (by obtain ⟨m1, m2, m3⟩ := X.tmem true; simp; exact ⟨m2, m3⟩))
              have HB2 := hide (HBJ.out.put (by omega) true k)
              clear hi hk
              go_wp2
              go_roundw
              case rel => exact ⟨j + 1, _, by omega, by go_num, HI2, HIN2, hide (by rw [show (100 * (T : Int) + ((j + 1 : Nat) : Int)) = 100 * (T : Int) + j + 1 by omega]; exact HB2.out), HK2⟩
              case measure => simp [intOf]; omega
            have d1 : (kd == 1) = false := beq_eq_false_iff_ne.2 h1
            clear h1
            by_cases h2 : kd = 2
            · subst h2
              go_wp2_with fail
              refine (itrim_yes HM2.out k 1 (by decide) (by omega)).mono ?_
              rintro e w2 ⟨v, rfl, ho, hi, hk⟩
              have HI2 := hide hi
              have HIN2 := hide (HOY.out _ _ _ _ HN2.out hk (by obtain ⟨m1, m2, m3⟩ := X.tmem true; simp; exact ⟨m2, m3⟩))
              have HK2 := hide (HTU.out X HXN.out _ _ _ HKJ.out hk (by obtain ⟨m1, m2, m3⟩ := X.tmem true; simp; exact ⟨m2, m3⟩))
              have HB2 := hide (HBJ.out.drop (by omega) true k 1)
              clear hi hk
              go_wp2
              go_roundw
              case rel => exact ⟨j + 1, _, by omega, by go_num, HI2, HIN2, hide (by rw [show (100 * (T : Int) + ((j + 1 : Nat) : Int)) = 100 * (T : Int) + j + 1 by omega]; exact HB2.out), HK2⟩
              case measure => simp [intOf]; omega
            have d2 : (kd == 2) = false := beq_eq_false_iff_ne.2 h2
            clear h2
            by_cases h3 : kd = 3
            · subst h3
              go_wp2_with fail
              refine (commit_any HM2.out).mono ?_
              rintro e w2 ⟨v, rfl, ho, hi, hk⟩
              have HI2 := hide hi
              have HIN2 := hide (HOY.out _ _ _ _ HN2.out hk (by obtain ⟨m1, m2, m3, m4, m5, m6, m7⟩ := X.mem; simp; exact ⟨m3, m4, m6, m7⟩))
              have HK2 := hide (HTU.out X HXN.out _ _ _ HKJ.out hk (by obtain ⟨m1, m2, m3, m4, m5, m6, m7⟩ := X.mem; simp; exact ⟨m3, m4, m6, m7⟩))
              have HB2 := hide (HBJ.out.commit (by omega))
              clear hi hk
              go_wp2
              go_roundw
              case rel => exact ⟨j + 1, _, by omega, by go_num, HI2, HIN2, hide (by rw [show (100 * (T : Int) + ((j + 1 : Nat) : Int)) = 100 * (T : Int) + j + 1 by omega]; exact HB2.out), HK2⟩
              case measure => simp [intOf]; omega
            have d3 : (kd == 3) = false := beq_eq_false_iff_ne.2 h3
            clear h3
            by_cases h5 : kd = 5
            · subst h5
              go_wp2_with fail
              refine (iput_yes HM2.out k (100 * (T : Int) + j + 1) hkM (by omega) (by omega)).mono ?_
              rintro e w2 ⟨rfl, hi, hk⟩
              have HI2 := hide hi
              have HIN2 := hide (HOY.out _ _ _ _ HN2.out hk (by obtain ⟨m1, m2, m3⟩ := X.tmem false; simp; exact ⟨m2, m3⟩))
              have HK2 := hide (HTU.out X HXN.out _ _ _ HKJ.out hk (by obtain ⟨m1, m2, m3⟩ := X.tmem false; simp; exact ⟨m2, m3⟩))
              have HB2 := hide (HBJ.out.put (by omega) false k)
              clear hi hk
              go_wp2
              go_roundw
              case rel => exact ⟨j + 1, _, by omega, by go_num, HI2, HIN2, hide (by rw [show (100 * (T : Int) + ((j + 1 : Nat) : Int)) = 100 * (T : Int) + j + 1 by omega]; exact HB2.out), HK2⟩
              case measure => simp [intOf]; omega
            have d5 : (kd == 5) = false := beq_eq_false_iff_ne.2 h5
            clear h5
            have HB2 := hide (HBJ.out.mono (c' := 100 * (T : Int) + j + 1) (by omega))
            go_wp2
            go_roundw
            case rel => exact ⟨j + 1, _, by omega, by go_num, HM2, HN2, hide (by rw [show (100 * (T : Int) + ((j + 1 : Nat) : Int)) = 100 * (T : Int) + j + 1 by omega]; exact HB2.out), HKJ⟩
            case measure => simp [intOf]; omega
          · obtain rfl : j = len1 := by omega
            have HMV := hide HBJ.out.mv
            have HBQ0 := hide HBJ.out.start
            have HMO := hide HBJ.out.mv.1
            clear HBJ HLN
            go_wp2
            go_loopw [6, 13, 14, 15] (fun _ kk pg ii wr => ∃ (q : Nat) (N2 : Im), q ≤ 2 ∧ kk = .int .i64 q ∧ Hid (IAt wr X M2) ∧ Hid (IAt wr Y N2) ∧ Hid (BkQ n M2 N2 q) ∧ Hid (Kept [] w wr)) (fun _ kk _ _ _ => 2 - (intOf kk).toNat)
            case atStart => exact ⟨0, N, by omega, rfl, HM2, HN2, HBQ0, HKJ⟩
            case round =>
              clear HM2 HN2 HKJ HBQ0
              obtain ⟨q, N2, hq2, rfl, HM2, HN2, HBQ, HKJ⟩ := hrel
              by_cases hql : q < 2
              · have hdq : decide ((q : Int) < 2) = true := decide_eq_true (by omega)
                obtain ⟨ov, hov⟩ : ∃ ov, ((q : Int) == 1) = ov := ⟨_, rfl⟩
                have HOV := hide (show ov = decide (q = 1) from by rw [← hov]; rw [Bool.eq_iff_iff]; simp; omega)
                have HDL := hide (HM2.out.dl HMO.out ov)
                go_wp2_with fail
                refine (dirty_any HM2.out ov 99 (by decide)).mono ?_
                rintro e w1 ⟨v1, rfl, ho1, hk1⟩
                obtain ⟨A1, c1, rfl, hc1, hrd⟩ := own_read ho1
                have HPL := hide (dirt_length HM2.out ov)
                have HV1 := hide (hrd Y.all (fun y hy => .inl (HN2.out.lt y hy)))
                have HMd := hide (HM2.out.keep hk1)
                have HNd := hide (HN2.out.keep hk1)
                have HKd := hide (HKJ.out.trans hk1 (by simp))
                have HP0 := hide (HBQ.out.first HMO.out ov)
                have HPM := hide (fun (p : Nat) (hp : p ∈ M2.dirt ov) => dirt_lt hp)
                obtain ⟨ps, hps⟩ : ∃ ps, M2.dirt ov = ps := ⟨_, rfl⟩
                have HPS := hide hps
                rw [hps] at HPL HV1 HPM
                simp only [hps]
                clear ho1 hk1 hrd hps
                go_wp2
                go_loopw [6, 15] (fun _ ii wr => ∃ (s : Nat) (u : Tb), s ≤ ps.length ∧ ii = .int .i64 s ∧ Hid (IAt wr X M2) ∧ Hid (IAt wr Y (N2.put ov u)) ∧ Hid (BkP n (M2.tb ov) u (ps.take s)) ∧ Hid (Vals wr Y.all A1 (cellsN ps)) ∧ Hid (Kept [] w wr)) (fun _ ii _ => ps.length - (intOf ii).toNat)
                case atStart => exact ⟨0, N2.tb ov, Nat.zero_le _, rfl, HMd, hide (by rw [put_tb]; exact HNd.out), HP0, HV1, HKd⟩
                case round =>
                  clear HMd HNd HKd HV1 HP0 HM2 HN2 HKJ
                  obtain ⟨s, u, hs, rfl, HMs, HNs, HPs, HVs, HKs⟩ := hrel
                  have hpl := HPL.out
                  by_cases hsl : s < ps.length
                  · obtain ⟨pg, hpg⟩ : ∃ pg, ps[s]? = some pg := ⟨_, List.getElem?_eq_getElem hsl⟩
                    obtain ⟨ad1, rfl, _, pc⟩ := HVs.out s _ (cellsN_at hpg)
                    have hpd := HPM.out pg (List.mem_of_getElem? hpg)
                    have HPG := hide hpg
                    have HPD := hide hpd
                    have hpn : pg < (n + 15 - 1) / 15 := by rw [← HDL.out]; exact hpd
                    obtain ⟨b, hb⟩ : ∃ b, pg * 15 = b := ⟨_, rfl⟩
                    obtain ⟨m, hm⟩ : ∃ m, min (b + 15) n - b = m := ⟨_, rfl⟩
                    have HPN := hide (show pg < (n + 15 - 1) / 15 ∧ pg * 15 = b ∧ min (b + 15) n - b = m ∧ b < n from ⟨hpn, hb, hm, by omega⟩)
                    have HXL := hide (show (((M2.tb ov).l.drop b).take m).length = m from by rw [List.length_take, List.length_drop, of_tb HMO.out ov]; omega)
                    have HOKP := hide (page_ok HMV.out (by omega) ov b m)
                    have HMr := hide (HMs.out.keep ((Kept.refl [] wr).drew))
                    have HNr := hide (HNs.out.keep ((Kept.refl [] wr).drew))
                    have HVr := hide (HVs.out.kept ((Kept.refl [] wr).drew) (by simp))
                    have HKr := hide (HKs.out.trans ((Kept.refl [] wr).drew) (by simp))
                    have HNO := hide (show (N2.put ov u).of n from of_put HBQ.out.of_ ov HPs.out.len)
                    have pcd : wr.drew.cell? (ad1.add s) = some (.int .i64 (pg : Int)) := pc
                    clear hpg hpd hpn hb hm HMs HNs HVs HKs
                    go_wp2
                    refine wp_region_noPanic ?_
                    refine wp_region_held_drew (S := fun W => W.cell? (ad1.add s) = some (.int .i64 (pg : Int))) (by kernel_rfl) (by exact pcd) (fun hHeld => ?_)
                    refine wpAnyH_take (i := 0) (oi := ⟨some 112, _, _, _, _, _⟩) (v := ?v16) rfl (by kernel_rfl) (by kernel_rfl) (by kernel_rfl) (fun _ _ _ h => h) (Or.inl ⟨by rfl, ?hy16⟩) (by assumption) ?rest16
                    case hy16 => (intro W hSw; (try dsimp only at hSw); go_simp; try with_reducible rfl)
                    try simp only [Act.put, List.setIfInBounds_toArray, List.set_cons_zero, List.set_cons_succ]
                    refine wpAnyH_take (i := 1) (oi := ⟨some 113, _, _, _, _, _⟩) (v := ?v17) rfl (by kernel_rfl) (by kernel_rfl) (by kernel_rfl) (fun _ _ _ h => h) (Or.inl ⟨by rfl, ?hy17⟩) (by assumption) ?rest17
                    case hy17 => (intro W hSw; (try dsimp only at hSw); go_simp; try with_reducible rfl)
                    try simp only [Act.put, List.setIfInBounds_toArray, List.set_cons_zero, List.set_cons_succ]
                    refine wpAnyH_take (i := 2) (oi := ⟨some 114, _, _, _, _, _⟩) (v := ?v18) rfl (by kernel_rfl) (by kernel_rfl) (by kernel_rfl) (fun _ _ _ h => h) (Or.inl ⟨by rfl, ?hy18⟩) (by assumption) ?rest18
                    case hy18 => (intro W hSw; (try dsimp only at hSw); go_simp; try with_reducible rfl)
                    try simp only [Act.put, List.setIfInBounds_toArray, List.set_cons_zero, List.set_cons_succ]
                    refine wpAnyH_take (i := 3) (oi := ⟨some 115, _, _, _, _, _⟩) (v := ?v19) rfl (by kernel_rfl) (by kernel_rfl) (by kernel_rfl) (fun _ _ _ h => h) (Or.inl ⟨by rfl, ?hy19⟩) (by assumption) ?rest19
                    case hy19 => (intro W hSw; (try dsimp only at hSw); go_simp; try with_reducible rfl)
                    try simp only [Act.put, List.setIfInBounds_toArray, List.set_cons_zero, List.set_cons_succ]
                    refine wpAnyH_take (i := 4) (oi := ⟨some 116, _, _, _, _, _⟩) (v := ?v20) rfl (by kernel_rfl) (by kernel_rfl) (by kernel_rfl) (fun _ _ _ h => h) (Or.inl ⟨by rfl, ?hy20⟩) (by assumption) ?rest20
                    case hy20 => (intro W hSw; (try dsimp only at hSw); go_simp; try with_reducible rfl)
                    try simp only [Act.put, List.setIfInBounds_toArray, List.set_cons_zero, List.set_cons_succ]
                    refine wpAnyH_take (i := 5) (oi := ⟨some 117, _, _, _, _, _⟩) (v := ?v21) rfl (by kernel_rfl) (by kernel_rfl) (by kernel_rfl) (fun _ _ _ h => h) (Or.inl ⟨by rfl, ?hy21⟩) (by assumption) ?rest21
                    case hy21 => (intro W hSw; (try dsimp only at hSw); go_simp; try with_reducible rfl)
                    try simp only [Act.put, List.setIfInBounds_toArray, List.set_cons_zero, List.set_cons_succ]
                    refine wpAnyH_take (i := 6) (oi := ⟨some 118, _, _, _, _, _⟩) (v := ?v22) rfl (by kernel_rfl) (by kernel_rfl) (by kernel_rfl) (fun _ _ _ h => h) (Or.inl ⟨by rfl, ?hy22⟩) (by assumption) ?rest22
                    case hy22 => (intro W hSw; (try dsimp only at hSw); go_simp; try with_reducible rfl)
                    try simp only [Act.put, List.setIfInBounds_toArray, List.set_cons_zero, List.set_cons_succ]
                    refine wpAnyH_take (i := 7) (oi := ⟨some 119, _, _, _, _, _⟩) (v := ?v23) rfl (by kernel_rfl) (by kernel_rfl) (by kernel_rfl) (fun _ _ _ h => h) (Or.inl ⟨by rfl, ?hy23⟩) (by assumption) ?rest23
                    case hy23 => (intro W hSw; (try dsimp only at hSw); go_simp; try with_reducible rfl)
                    try simp only [Act.put, List.setIfInBounds_toArray, List.set_cons_zero, List.set_cons_succ]
                    refine wpAnyH_take (i := 8) (oi := ⟨some 120, _, _, _, _, _⟩) (v := ?v24) rfl (by kernel_rfl) (by kernel_rfl) (by kernel_rfl) (fun _ _ _ h => h) (Or.inl ⟨by rfl, ?hy24⟩) (by assumption) ?rest24
                    case hy24 => (intro W hSw; (try dsimp only at hSw); go_simp; try with_reducible rfl)
                    try simp only [Act.put, List.setIfInBounds_toArray, List.set_cons_zero, List.set_cons_succ]
                    refine wpAnyH_take (i := 9) (oi := ⟨some 121, _, _, _, _, _⟩) (v := ?v25) rfl (by kernel_rfl) (by kernel_rfl) (by kernel_rfl) (fun _ _ _ h => h) (Or.inl ⟨by rfl, ?hy25⟩) (by assumption) ?rest25
                    case hy25 => (intro W hSw; (try dsimp only at hSw); go_simp; try with_reducible rfl)
                    try simp only [Act.put, List.setIfInBounds_toArray, List.set_cons_zero, List.set_cons_succ]
                    refine wpAnyH_take (i := 10) (oi := ⟨some 122, _, _, _, _, _⟩) (v := ?v26) rfl (by kernel_rfl) (by kernel_rfl) (by kernel_rfl) (fun _ _ _ h => h) (Or.inl ⟨by rfl, ?hy26⟩) (by assumption) ?rest26
                    case hy26 => (intro W hSw; (try dsimp only at hSw); go_simp; try with_reducible rfl)
                    try simp only [Act.put, List.setIfInBounds_toArray, List.set_cons_zero, List.set_cons_succ]
                    refine wpAnyH_take (i := 11) (oi := ⟨some 123, _, _, _, _, _⟩) (v := ?v27) rfl (by kernel_rfl) (by kernel_rfl) (by kernel_rfl) (fun _ _ _ h => h) (Or.inl ⟨by rfl, ?hy27⟩) (by assumption) ?rest27
                    case hy27 => (intro W hSw; (try dsimp only at hSw); go_simp; try with_reducible rfl)
                    try simp only [Act.put, List.setIfInBounds_toArray, List.set_cons_zero, List.set_cons_succ]
                    refine wpAnyH_take (i := 12) (oi := ⟨some 124, _, _, _, _, _⟩) (v := ?v28) rfl (by kernel_rfl) (by kernel_rfl) (by kernel_rfl) (fun _ _ _ h => h) (Or.inl ⟨by rfl, ?hy28⟩) (by assumption) ?rest28
                    case hy28 => (intro W hSw; (try dsimp only at hSw); go_simp; try with_reducible rfl)
                    try simp only [Act.put, List.setIfInBounds_toArray, List.set_cons_zero, List.set_cons_succ]
                    refine wpAnyH_take (i := 13) (oi := ⟨some 125, _, _, _, _, _⟩) (v := ?v29) rfl (by kernel_rfl) (by kernel_rfl) (by kernel_rfl) (fun _ _ _ h => h) (Or.inl ⟨by rfl, ?hy29⟩) (by assumption) ?rest29
                    case hy29 => (intro W hSw; (try dsimp only at hSw); go_simp; try with_reducible rfl)
                    try simp only [Act.put, List.setIfInBounds_toArray, List.set_cons_zero, List.set_cons_succ]
                    refine held_one (i := 14) (o := ⟨some 126, _, _, _, _, _⟩) rfl (by kernel_rfl) (by rfl) (fun K hK => ?_)
                    go_simp
                    refine (ipage_yes HMr.out ov pg HPD.out b m HPN.out.2.1 (by rw [HMO.out.1]; exact HPN.out.2.2.1)).mono ?_
                    rintro e1 W3 ⟨v3, rfl, ho3, hk3⟩
                    obtain ⟨A3, c3, rfl, hc3, hv3⟩ := row_read ho3
                    have HM3 := hide (HMr.out.keep hk3)
                    have HN3 := hide (HNr.out.keep hk3)
                    have HV3 := hide hv3
                    have HVp := hide (HVr.out.kept hk3 (by simp))
                    have HK3 := hide (HKr.out.trans hk3 (by simp))
                    have pc3 := hk3.cell pcd (by simp)
                    clear ho3 hk3 hv3
                    refine hK.out _ _ (by exact pc3) (fun hHeld => ?_)
                    clear hK K
                    try simp only [Act.put, List.setIfInBounds_toArray, List.set_cons_zero, List.set_cons_succ]
                    refine held_one (i := 15) (o := ⟨some 127, _, _, _, _, _⟩) rfl (by kernel_rfl) (by rfl) (fun K hK => ?_)
                    go_simp
                    refine (iload_any HN3.out ov pg (by rw [HN3.out.dl HNO.out ov]; exact HPN.out.1) b m HPN.out.2.1 (by rw [HNO.out.1]; exact HPN.out.2.2.1) A3 m c3 hc3 (Nat.le_refl _) (((M2.tb ov).l.drop b).take m) HXL.out HV3.out).mono ?_
                    rw [List.take_of_length_le (Nat.le_of_eq HXL.out), HOKP.out]
                    rintro e2 W4 ⟨rfl, hp4⟩
                    unfold LoadPost at hp4
                    rw [if_pos rfl, put_put, tb_put] at hp4
                    obtain ⟨hi4, hk4⟩ := hp4
                    have HM4 := hide (HOX.out _ _ _ _ HM3.out hk4 (by obtain ⟨m1, m2, m3⟩ := Y.tmem ov; simp; exact ⟨m2, m3⟩))
                    have HN4 := hide hi4
                    have HV4 := hide (HVp.out.kept hk4 (by obtain ⟨m1, m2, m3⟩ := Y.tmem ov; simp; exact ⟨m2, m3⟩))
                    have HK4 := hide (HTU.out Y HYN.out _ _ _ HK3.out hk4 (by obtain ⟨m1, m2, m3⟩ := Y.tmem ov; simp; exact ⟨m2, m3⟩))
                    have pc4 : W4.cell? (ad1.add s) = some (.int .i64 (pg : Int)) := by obtain ⟨ad, e, _, h⟩ := HV4.out s _ (cellsN_at HPG.out); cases e; exact h
                    clear hi4 hk4
                    refine hK.out _ _ (by exact pc4) (fun hHeld => ?_)
                    clear hK K
                    try simp only [Act.put, List.setIfInBounds_toArray, List.set_cons_zero, List.set_cons_succ]
                    refine wpAnyH_take (i := 16) (oi := ⟨some 128, _, _, _, _, _⟩) (v := ?v30) rfl (by kernel_rfl) (by kernel_rfl) (by kernel_rfl) (fun _ _ _ h => h) (Or.inl ⟨by rfl, ?hy30⟩) (by assumption) ?rest30
                    case hy30 => (intro W hSw; (try dsimp only at hSw); go_simp; try with_reducible rfl)
                    try simp only [Act.put, List.setIfInBounds_toArray, List.set_cons_zero, List.set_cons_succ]
                    refine wpAnyH_done (by kernel_rfl) ?_ _
                    refine NoPanic.normal ?_
                    have HP4 := hide (HPs.out.more (of_tb HMO.out ov) pg b m HPN.out.2.1 HPN.out.2.2.1 HPN.out.2.2.2)
                    have HTK := hide (show ps.take (s + 1) = ps.take s ++ [pg] from by rw [List.take_add_one, HPG.out]; rfl)
                    go_wp2
                    go_roundw
                    case rel => exact ⟨s + 1, _, by omega, by go_num, HM4, HN4, hide (by rw [HTK.out]; exact HP4.out), HV4, HK4⟩
                    case measure => simp [intOf]; omega
                  · obtain rfl : s = ps.length := by omega
                    have HP5 := hide (show BkP n (M2.tb ov) u (M2.dirt ov) from by have := HPs.out; rw [List.take_of_length_le (Nat.le_refl _)] at this; rw [HPS.out]; exact this)
                    have HQ5 := hide (HBQ.out.next HMO.out hql ov HOV.out HDL.out HP5.out)
                    go_wp2
                    go_roundw
                    case rel => exact ⟨q + 1, _, by omega, by go_num, HMs, HNs, HQ5, HKs⟩
                    case measure => simp [intOf]; omega
              · obtain rfl : q = 2 := by omega
                have HTD := hide (BkI.turned HMV.out HBQ.out.of_ (HBQ.out.fb (by omega)) (HBQ.out.fo (by omega)) HBQ.out.cb HBQ.out.co)
                go_wp2_with fail
                refine (clean_any HM2.out).mono ?_
                rintro e w1 ⟨rfl, hi, hk⟩
                have HM3 := hide (show IAt w1 X M2.clean from hi)
                have HN3 := hide (HOY.out _ _ _ _ HN2.out hk (by obtain ⟨m1, m2, m3, m4, m5, m6, m7⟩ := X.mem; simp; exact ⟨m4, m7⟩))
                have HK3 := hide (HTU.out X HXN.out _ _ _ HKJ.out hk (by obtain ⟨m1, m2, m3, m4, m5, m6, m7⟩ := X.mem; simp; exact ⟨m4, m7⟩))
                clear hi hk
                have HDM := hide (show ∀ (ov : Bool) (W : World), IAt W X M2.clean → Calls Try.prog 36 #[.pointer (some ⟨X.m, 0, none⟩), .bool ov, .int .i64 9] W fun e w' => ∃ A c, e = .returned (.slice A 0 c) ∧ Kept [] W w' from fun ov W hi => (dirty_any hi ov 9 (by decide)).mono (by
                  rintro e w' ⟨v, rfl, ho, hk⟩
                  rw [show M2.clean.dirt ov = [] from by cases ov; exact HTD.out.2.2.2.1; exact HTD.out.2.2.2.2.1] at ho
                  obtain ⟨A, c, rfl, _, _⟩ := own_read ho
                  exact ⟨A, c, rfl, hk⟩))
                have HDN := hide (show ∀ (ov : Bool) (W : World), IAt W Y N2 → Calls Try.prog 36 #[.pointer (some ⟨Y.m, 0, none⟩), .bool ov, .int .i64 9] W fun e w' => ∃ A c, e = .returned (.slice A 0 c) ∧ Kept [] W w' from fun ov W hi => (dirty_any hi ov 9 (by decide)).mono (by
                  rintro e w' ⟨v, rfl, ho, hk⟩
                  rw [show N2.dirt ov = [] from by cases ov; exact HTD.out.2.2.2.2.2.1; exact HTD.out.2.2.2.2.2.2] at ho
                  obtain ⟨A, c, rfl, _, _⟩ := own_read ho
                  exact ⟨A, c, rfl, hk⟩))
                have HRL := hide (refsL_length HM3.out)
                clear HM2 HN2 HKJ HBQ HMV HMO
                go_wp2_with fail
                refine (HDM.out false _ HM3.out).mono ?_
                rintro e w3 ⟨_, _, rfl, hk⟩
                have HM4 := hide (HM3.out.keep hk)
                have HN4 := hide (HN3.out.keep hk)
                have HK4 := hide (HK3.out.trans hk (by simp))
                clear hk
                go_wp2_with fail
                refine (HDM.out true _ HM4.out).mono ?_
                rintro e w4 ⟨_, _, rfl, hk⟩
                have HM5 := hide (HM4.out.keep hk)
                have HN5 := hide (HN4.out.keep hk)
                have HK5 := hide (HK4.out.trans hk (by simp))
                clear hk
                go_wp2_with fail
                refine (HDN.out false _ HN5.out).mono ?_
                rintro e w5 ⟨_, _, rfl, hk⟩
                have HM6 := hide (HM5.out.keep hk)
                have HN6 := hide (HN5.out.keep hk)
                have HK6 := hide (HK5.out.trans hk (by simp))
                clear hk
                go_wp2_with fail
                refine (HDN.out true _ HN6.out).mono ?_
                rintro e w6 ⟨_, _, rfl, hk⟩
                have HM7 := hide (HM6.out.keep hk)
                have HN7 := hide (HN6.out.keep hk)
                have HK7 := hide (HK6.out.trans hk (by simp))
                clear hk
                go_wp2_with fail
                refine (refs_any HM7.out 300 (by decide)).mono ?_
                rintro e w8 ⟨v8, rfl, ho, hk⟩
                obtain ⟨A8, c8, rfl, _, hv⟩ := row_read ho
                have HV8 := hide hv
                have HM8 := hide (HM7.out.keep hk)
                have HN8 := hide (HN7.out.keep hk)
                have HK8 := hide (HK7.out.trans hk (by simp))
                clear hk ho hv
                go_wp2_with fail
                refine (refs_any HN8.out 300 (by decide)).mono ?_
                rintro e w9 ⟨v9, rfl, ho, hk⟩
                obtain ⟨A9, c9, rfl, _, hv⟩ := row_read ho
                have HV9 := hide hv
                rw [← HTD.out.2.1] at HV9
                have HV8b := hide (HV8.out.kept hk (by simp))
                have HM9 := hide (HM8.out.keep hk)
                have HN9 := hide (HN8.out.keep hk)
                have HK9 := hide (HK8.out.trans hk (by simp))
                clear hk ho hv
                rw [← HTD.out.2.1]
                go_wp2_with fail
                refine (like_any A8 A9 (refsL M2.clean).length c8 c9 (refsL M2.clean) _ rfl HV8b.out HV9.out (by have := HRL.out; omega)).mono ?_
                rintro e w10 ⟨rfl, hk⟩
                have HM10 := hide (HM9.out.keep hk)
                have HN10 := hide (HN9.out.keep hk)
                have HK10 := hide (HK9.out.trans hk (by simp))
                clear hk
                go_wp2_with fail
                refine (pending_any HM10.out).mono ?_
                rintro e w11 ⟨rfl, hk⟩
                have HM11 := hide (HM10.out.keep hk)
                have HN11 := hide (HN10.out.keep hk)
                have HK11 := hide (HK10.out.trans hk (by simp))
                clear hk
                go_wp2_with fail
                refine (pending_any HN11.out).mono ?_
                rintro e w12 ⟨rfl, hk⟩
                rw [← HTD.out.2.2.1]
                have HM12 := hide (HM11.out.keep hk)
                have HN12 := hide (HN11.out.keep hk)
                have HK12 := hide (HK11.out.trans hk (by simp))
                clear hk
                have HBE := hide (HTD.out.1.mono (c' := 100 * ((T + 1 : Nat) : Int)) (by omega))
                obtain ⟨pl, hpl⟩ : ∃ pl, (pendL M2.clean.o.l).length = pl := ⟨_, rfl⟩
                simp only [hpl]
                go_wp2
                go_roundw
                case rel => exact ⟨T + 1, _, _, by omega, by go_num, HM12, HN12, HBE, HK12⟩
                case measure => simp [intOf]; omega
    · obtain rfl : T = 2 := by omega
      go_wp2_with fail
      refine (up_any n 15 _ hb1 (by omega) (by decide) (by decide)).mono ?_
      rintro e w' ⟨rfl, rfl⟩
      obtain ⟨u, hu⟩ : ∃ u : Nat, (n + 15 - 1) / 15 = u := ⟨_, rfl⟩
      have hu1 : 1 ≤ u := by omega
      have hdu : decide ((u : Int) ≥ 1) = true := decide_eq_true (by omega)
      simp only [hu]
      clear hu
      go_wp2_with fail
      refine (awake_any _).mono ?_
      rintro e w7 ⟨rfl, hk7⟩
      have HK7 := hide ((HKR.out.trans hk7 (by simp)).below (by simp))
      clear hk7
      go_wp2
      go_ret
      exact ⟨rfl, HK7.out⟩

/-! ### the row's step, as the guide's skeleton has it -/
set_option maxRecDepth 100000 in
theorem lifted (os : Os) (started : os.Started) (H : Type) (enc : TypeId × Value → H) :
    ReturnsInHanded {} Try.checked os 7 .any (Rows.imageBackSpec.pre6 enc Try.prog Try.f7 Rows.imageBackRow.domain false) (Rows.imageBackSpec.post enc Try.prog Try.f7 false true false false) := by
  refine returnsInHanded_of_change (C := Try.checked) own started (by kernel_rfl) Try.func7
    (ChangeSpec.witness6 (enc := enc) (C := Try.checked) false ⟨#[], #[.int .i64 0, .slice none 0 0, .slice none 0 0], []⟩ 8 (by kernel_rfl) (by kernel_rfl) (by kernel_rfl) (by kernel_rfl)) ?_
  intro W base args ds gs before hval0 hW hcnd _
  have hval : ∀ (j : Nat) t v, Try.f7.params[j]? = some t → args[j]? = some v → Value.okWide Try.prog W .any base t v := hval0
  have hW' := hW
  obtain ⟨p, q, hA0, hV, rfl, hfz, hnd⟩ := hW
  have hA : DataW.TrodAll enc Try.prog W 0 (fun _ => true) true Try.f7.params.toList args.toList ds p := hA0
  rw [Try.params7] at hA hval
  obtain ⟨v0, vs0, d0, ds0, p0, q0, hargs, rfl, rfl, h0, r0⟩ := trodAll_cons hA
  obtain ⟨v1, vs1, d1, ds1, p1, q1, rfl, rfl, rfl, h1, r1⟩ := trodAll_cons r0
  obtain ⟨v2, vs2, d2, ds2, p2, q2, rfl, rfl, rfl, h2, r2⟩ := trodAll_cons r1
  obtain ⟨rfl, rfl, rfl⟩ := trodAll_nil r2
  obtain rfl : args = #[v0, v1, v2] := by cases args; simp_all
  obtain ⟨rfl, rfl⟩ := trodVars_none hV
  obtain ⟨a0, rfl, rfl, rfl, w0⟩ := open_int Try.underlying3 (hval 0 3 v0 rfl rfl) h0
  obtain ⟨a1, len1, cap1, rfl⟩ := okWide_slice Try.underlying45 (hval 1 45 v1 rfl rfl)
  have k1 := h1
  have lt1 : ∀ x ∈ p1, x.block < W.heap.size := by obtain ⟨m, hm⟩ := k1; exact DataW.trod_lt m _ _ _ hm
  obtain ⟨l1, e1, w1, b1⟩ : ∃ l : List (List Int), l.length = len1 ∧ Slab W 3 a1 l ∧ len1 ≤ cap1 ∧ cap1 ≤ maxLen := by
    obtain ⟨fuel, hf⟩ := h1
    exact slab_of Try.underlying45 (by kernel_rfl) (fun _ cs x hl h => struct_cells Try.underlying3 Try.underlying48 (by kernel_rfl) (by simp) (by kernel_rfl) _ cs x hl h) hf
  obtain ⟨a2, len2, cap2, rfl⟩ := okWide_slice Try.underlying45 (hval 2 45 v2 rfl rfl)
  have k2 := h2
  have lt2 : ∀ x ∈ p2, x.block < W.heap.size := by obtain ⟨m, hm⟩ := k2; exact DataW.trod_lt m _ _ _ hm
  obtain ⟨l2, e2, w2, b2⟩ : ∃ l : List (List Int), l.length = len2 ∧ Slab W 3 a2 l ∧ len2 ≤ cap2 ∧ cap2 ≤ maxLen := by
    obtain ⟨fuel, hf⟩ := h2
    exact slab_of Try.underlying45 (by kernel_rfl) (fun _ cs x hl h => struct_cells Try.underlying3 Try.underlying48 (by kernel_rfl) (by simp) (by kernel_rfl) _ cs x hl h) hf
  clear hA0 hval0
  refine (walk a0 a1 len1 cap1 l1 a2 len2 cap2 l2 W w0 w1 e1 b1 w2 e2 b2).mono fun e W' ⟨he, bel⟩ => ?_
  subst he
  exact ⟨_, rfl, _, _, _, [], _, [], hW', trodAll_mk1 (shut_bool Try.underlying4 _), (trodAll_cons_mk (shut_int Try.underlying3 w0) (trodAll_cons_mk (Below.trod laidOut (by kernel_rfl) (of_decide_eq_true (by kernel_rfl)) k1 bel lt1) (trodAll_cons_mk (Below.trod laidOut (by kernel_rfl) (of_decide_eq_true (by kernel_rfl)) k2 bel lt2) trodAll_mk0))), rfl, bel.frame _, fun h => by cases h⟩

theorem over : Rows.imageBackRow.holds Try.pinned (OpenSpec.ofChange Rows.imageBackSpec) :=
  OpenClaim.holds_of_wide 7 Try.f7 rfl rfl rfl rfl rfl rfl rfl ⟨rfl, rfl, rfl, rfl, rfl⟩ rfl rfl rfl rfl rfl (by kernel_rfl) Try.func7 (by kernel_rfl)
    (of_decide_eq_true (by kernel_rfl)) (by unfold Func.isWrapper; first | (rw [if_pos (by decide +kernel)]; kernel_rfl) | (rw [if_neg (by decide +kernel)]; exact ⟨rfl, rfl⟩))
    (fun os started H enc _ => lifted os started H enc)

/-- The statement. -/
theorem proved : Rows.ImageBackSaid := over
#print axioms proved
end Go.Proofs.Ytlgdjbilffjknaa.imageBack

