/-
  The given statement ImageStandsSaid is proved: whatever the arguments are, the law returns true and leaves its input as it was. No conditions.
-/
import Derived.Test.YtlgdjbilffjknaaShapes
import Derived.Test.YtlgdjbilffjknaaSlabs
import Derived.Test.YtlgdjbilffjknaaImageAwake
import Derived.Test.YtlgdjbilffjknaaImageStandsM
import Derived.Deep.CutRange
import Derived.Deep.CutBlock
import Derived.StillTailTactics
import Derived.Test.YtlgdjbilffjknaaAlike
import Derived.Test.YtlgdjbilffjknaaOwns
import Derived.Test.YtlgdjbilffjknaaFar
import Derived.WalkKit
import Derived.ProofKit
import Derived.OpenShut
import Derived.ShutString
import Derived.ChangeOld
import Derived.Below
namespace Go.Proofs.Ytlgdjbilffjknaa.imageStands
open Go.ChangeShapes Go.WideShapes Go.ChangeAt Go.RowKit
open Go.ChangeMaps (open_string shut_string)
open Go.Proofs.Ytlgdjbilffjknaa.mem Go.Proofs.Ytlgdjbilffjknaa.base Go.Proofs.Ytlgdjbilffjknaa.im Go.Proofs.Ytlgdjbilffjknaa.pd Go.Proofs.Ytlgdjbilffjknaa.pg Go.Proofs.Ytlgdjbilffjknaa.owns
set_option linter.unusedVariables false

theorem own : ownKnob Try.prog.godebug = none := by kernel_rfl
theorem laidOut : laidOutB Try.prog = true := by kernel_rfl

set_option maxRecDepth 100000 in
set_option maxHeartbeats 24000000 in
theorem walk (a0 : Int) (a1 : Option Addr) (len1 cap1 : Nat) (l1 : List (List Int)) (w : World) (w0 : (Lit.int .i64 a0).wf = true) (w1 : Slab w 3 a1 l1) (e1 : l1.length = len1) (b1 : len1 ≤ cap1 ∧ cap1 ≤ maxLen) :
    Calls Try.prog 4 #[.int .i64 a0, .slice a1 len1 cap1] w fun e w' => e = .returned (.bool true) ∧ Below w.heap.size w w' := by
  by_cases hn1 : a0 < 1
  · have hd1 : decide (a0 < 1) = true := decide_eq_true hn1
    clear w1
    go_enter Try.func4, Try.ntmps4
    go_wp2_with fail
    refine (awake_any _).mono ?_
    rintro e w' ⟨rfl, hk⟩
    have HB := hide (hk.below (by simp))
    clear hk
    go_wp2
    go_ret
    exact ⟨rfl, HB.out⟩
  have hd1 : decide (a0 < 1) = false := decide_eq_false hn1
  by_cases hn2 : a0 > 64
  · have hd2 : decide (a0 > 64) = true := decide_eq_true hn2
    clear w1
    go_enter Try.func4, Try.ntmps4
    go_wp2_with fail
    refine (awake_any _).mono ?_
    rintro e w' ⟨rfl, hk⟩
    have HB := hide (hk.below (by simp))
    clear hk
    go_wp2
    go_ret
    exact ⟨rfl, HB.out⟩
  have hd2 : decide (a0 > 64) = false := decide_eq_false hn2
  by_cases hn3 : (len1 : Int) > 60
  · have hd3 : decide ((len1 : Int) > 60) = true := decide_eq_true hn3
    clear w1
    go_enter Try.func4, Try.ntmps4
    go_wp2_with fail
    refine (awake_any _).mono ?_
    rintro e w' ⟨rfl, hk⟩
    have HB := hide (hk.below (by simp))
    clear hk
    go_wp2
    go_ret
    exact ⟨rfl, HB.out⟩
  have hd3 : decide ((len1 : Int) > 60) = false := decide_eq_false hn3
  obtain ⟨n, rfl⟩ : ∃ n : Nat, a0 = (n : Int) := ⟨a0.toNat, by omega⟩
  have hb1 : 1 ≤ n := by omega
  have hb2 : n ≤ 64 := by omega
  have hb3 : len1 ≤ 60 := by omega
  have HSL := hide w1
  have HE1 := hide e1
  clear w1 e1 hn1 hn2 hn3
  go_enter Try.func4, Try.ntmps4
  go_wp2_with fail
  refine (inew_yes n _ hb1 hb2).mono ?_
  rintro e wA ⟨X, rfl, hxn, hi, hk⟩
  have HXN := hide hxn
  have HIA := hide hi
  have HKA := hide hk
  clear hxn hi hk
  obtain ⟨Z, hZ⟩ : ∃ Z, ((List.replicate n (0 : Int)).map I).toArray = Z := ⟨_, rfl⟩
  have hmk : ∀ W : World, (Instr.makeSlice 29 (.int .i64 (n : Int)) (.int .i64 (n : Int))).run Try.prog W = .ok (.slice (some ⟨W.heap.size, 0, none⟩) n n) (W.alloc (.cells Z 3)) := fun W => by rw [← hZ]; exact made_ints n (by omega) W
  have HZ := hide hZ
  clear hZ
  go_upto_region 6 with fail
  go_cut [6, 7] from 37 to 40 (fun s6 s7 wx => ∃ gb go_ : Nat, s6 = .slice (some ⟨gb, 0, none⟩) n n ∧ s7 = .slice (some ⟨go_, 0, none⟩) n n ∧ Hid (Blk wx gb 3 Z) ∧ Hid (Blk wx go_ 3 Z) ∧ gb ≠ go_ ∧ wA.heap.size ≤ gb ∧ wA.heap.size ≤ go_ ∧ Hid (Kept [] wA wx))
  case first =>
    have r1 : Blk ((wA.alloc (.cells Z 3)).alloc (.cells Z 3)).drew wA.heap.size 3 Z := ((Blk.new wA _ _).alloc _).drew
    have r2 : Blk ((wA.alloc (.cells Z 3)).alloc (.cells Z 3)).drew (wA.heap.size + 1) 3 Z := by have := Blk.new (wA.alloc (.cells Z 3)) 3 Z; simpa using this.drew
    have rk : Kept [] wA ((wA.alloc (.cells Z 3)).alloc (.cells Z 3)).drew := (((Kept.refl [] wA).alloc _).alloc _).drew
    have R1 := hide r1
    have R2 := hide r2
    have RK := hide rk
    clear r1 r2 rk
    go_wp2
    go_region_held3 (fun _ => True) (trivial) (fail)
    all_goals
      go_wp2
      go_meet
    · exact ⟨_, _, rfl, rfl, R1, R2, by omega, Nat.le_refl _, by omega, RK⟩
    · exact ⟨_, _, rfl, rfl, R2, R1, by omega, by omega, Nat.le_refl _, RK⟩
  case rest =>
    obtain ⟨gb, go_, rfl, rfl, HBB, HOO, hne, hlb, hlo, HKC⟩ := hcut
    have HI0 := hide (HIA.out.keep HKC.out)
    have HK0 := hide (HKA.out.trans HKC.out (by simp))
    have HAP := hide (show gb ∉ X.all ∧ go_ ∉ X.all ∧ gb ≠ go_ ∧ w.heap.size ≤ gb ∧ w.heap.size ≤ go_ from by
      have h1 := HIA.out.lt
      have h2 := HKA.out.size
      exact ⟨fun hm => by have := h1 _ hm; omega, fun hm => by have := h1 _ hm; omega, hne, by omega, by omega⟩)
    have HRW0 := hide (show Rows2 wc gb go_ (List.replicate n 0) (mix (List.replicate n 0) (List.replicate n (-1)) 0) from by rw [mix_zero]; exact ⟨by rw [HZ.out]; exact HBB.out, by rw [HZ.out]; exact HOO.out⟩)
    have HTB := hide (show ∀ (W1 W2 : World), Kept [] w W1 → Kept [gb] W1 W2 → Kept [] w W2 from fun W1 W2 k1 k2 => k1.trans k2 (fun y hy => .inr (by simp at hy; subst hy; exact HAP.out.2.2.2.1)))
    have HTO := hide (show ∀ (W1 W2 : World), Kept [] w W1 → Kept [go_] W1 W2 → Kept [] w W2 from fun W1 W2 k1 k2 => k1.trans k2 (fun y hy => .inr (by simp at hy; subst hy; exact HAP.out.2.2.2.2)))
    have HIB := hide (show ∀ (W1 W2 : World) (M : Im), IAt W1 X M → Kept [gb] W1 W2 → IAt W2 X M from fun W1 W2 M h k => h.kept k (fun y hy hm => by simp at hm; subst hm; exact HAP.out.1 hy))
    have HIO := hide (show ∀ (W1 W2 : World) (M : Im), IAt W1 X M → Kept [go_] W1 W2 → IAt W2 X M from fun W1 W2 M h k => h.kept k (fun y hy hm => by simp at hm; subst hm; exact HAP.out.2.1 hy))
    have HRX := hide (show ∀ (W1 W2 : World) (S : List Nat) (B O : List Int), Rows2 W1 gb go_ B O → Kept S W1 W2 → (∀ y ∈ S, y ∈ X.all) → Rows2 W2 gb go_ B O from fun W1 W2 S B O h k hs => ⟨k.blk h.1 (fun hm => HAP.out.1 (hs _ hm)), k.blk h.2 (fun hm => HAP.out.2.1 (hs _ hm))⟩)
    have HTU := hide (show ∀ (S : List Nat) (W1 W2 : World), Kept [] w W1 → Kept S W1 W2 → (∀ y ∈ S, y ∈ X.all) → Kept [] w W2 from fun S W1 W2 k1 k2 hs => k1.trans k2 (fun y hy => .inr (HXN.out y (hs y hy))))
    clear hne hlb hlo HBB HOO HKC HZ
    go_wp2
    go_loopw [8] (fun i wr => ∃ c : Nat, c ≤ n ∧ i = .int .i64 c ∧ Hid (IAt wr X (Im.fresh n)) ∧ Hid (Rows2 wr gb go_ (List.replicate n 0) (mix (List.replicate n 0) (List.replicate n (-1)) c)) ∧ Hid (Kept [] w wr)) (fun i _ => n - (intOf i).toNat)
    case atStart => exact ⟨0, Nat.zero_le _, rfl, HI0, HRW0, HK0⟩
    case round =>
      clear HI0 HRW0 HK0
      obtain ⟨c, hc, rfl, HIc, HRc, HKc⟩ := hrel
      by_cases hcn : c < n
      · have c1 : wr.cell? ⟨go_, c, none⟩ = some (.int .i64 0) := HRc.out.cellO (by rw [mix_at (n := n) (by simp) (by simp) hcn]; simp [List.getD_eq_getElem?_getD, hcn])
        have f1 := HRc.out.2.frozen c
        have HS := hide ((Kept.refl [go_] wr).set_ (b := go_) (.inl (by simp)) c (.int .i64 (-1)))
        have HR2 := hide (HRc.out.setO HAP.out.2.2.1 c (-1))
        have hm1 : (List.replicate n (-1 : Int)).getD c 0 = -1 := by simp [List.getD_eq_getElem?_getD, hcn]
        have HMX := hide (show (mix (List.replicate n 0) (List.replicate n (-1)) c).set c (-1) = mix (List.replicate n 0) (List.replicate n (-1)) (c + 1) from by rw [← mix_set (n := n) (by simp) (by simp) hcn, hm1])
        rw [HMX.out] at HR2
        clear hm1
        go_wp2
        go_roundw
        case rel => exact ⟨c + 1, by omega, by go_num, hide (HIO.out _ _ _ HIc.out HS.out), HR2, hide (HTO.out _ _ HKc.out HS.out)⟩
        case measure => simp [intOf]; omega
      · obtain rfl : c = n := by omega
        have HR3 := hide (show Rows2 wr gb go_ (Im.fresh c).b.l (Im.fresh c).o.l from by have := HRc.out; rw [mix_all (n := c) (by simp) (by simp)] at this; exact this)
        clear HRc
        go_wp2
        go_loopw [4, 9, 10, 11, 12, 13, 14, 15, 16, 17, 18, 19, 20] (fun _ i _ _ _ _ _ _ _ _ _ _ _ wr => ∃ (j : Nat) (M : Im), j ≤ len1 ∧ i = .int .i64 j ∧ Hid (IAt wr X M) ∧ Hid (MvI c j M) ∧ Hid (Rows2 wr gb go_ M.b.l M.o.l) ∧ Hid (Kept [] w wr)) (fun _ i _ _ _ _ _ _ _ _ _ _ _ _ => len1 - (intOf i).toNat)
        case atStart => exact ⟨0, Im.fresh c, Nat.zero_le _, rfl, HIc, hide MvI.fresh, HR3, HKc⟩
        case round =>
          clear HIc HR3 HKc
          obtain ⟨j, M, hj, rfl, HIM, HMV, HRM, HKR⟩ := hrel
          by_cases hlt : j < len1
          · obtain ⟨ad, kd, bb, nn, rfl, _, q0, q1, q2⟩ := deed_at HSL.out (i := j) (by rw [HE1.out]; exact hlt)
            have HQ0 := hide q0
            have r0 := HKR.out.cell q0 (by simp)
            have r1 := HKR.out.cell q1 (by simp)
            have r2 := HKR.out.cell q2 (by simp)
            clear q0 q1 q2
            obtain ⟨k, hk0⟩ : ∃ k : Nat, bb % (c : Int) = (k : Int) := ⟨(bb % (c : Int)).toNat, by have := Int.emod_nonneg bb (b := (c : Int)) (by omega); omega⟩
            have hkn : k < c := by have := Int.emod_lt_of_pos bb (b := (c : Int)) (by omega); omega
            obtain ⟨q, hq0⟩ : ∃ q : Nat, nn % ((c : Int) - k) = (q : Int) := ⟨(nn % ((c : Int) - k)).toNat, by have := Int.emod_nonneg nn (b := (c : Int) - k) (by omega); omega⟩
            have hqn : k + (q + 1) ≤ c := by have := Int.emod_lt_of_pos nn (b := (c : Int) - k) (by omega); omega
            have HLN := hide HMV.out.1.1
            have hkM : k < M.b.l.length := by rw [HLN.out]; exact hkn
            have HKE := hide hk0
            have HQE := hide hq0
            clear hk0 hq0
            have hsb : IntKind.i64.wrap ((c : Int) - k) = (c : Int) - k := by rw [IntKind.wrap_i64]; omega
            obtain ⟨z, hz⟩ : ∃ z : Nat, (1 : Int) + (q : Int) = (z : Int) := ⟨q + 1, by omega⟩
            have hz1 : 1 ≤ z := by omega
            have hkz : k + z ≤ c := by omega
            go_wp2_with fail
            refine (round_any bb c _ (by omega) (by omega)).mono ?_
            rintro e w' ⟨rfl, rfl⟩
            rw [HKE.out]
            go_wp2_with fail
            refine (round_any nn ((c : Int) - k) _ (by omega) (by omega)).mono ?_
            rintro e w' ⟨rfl, rfl⟩
            rw [HQE.out]
            go_upto_block 4 with fail
            go_cut [12, 13] from 49 to 234 (fun _ _ wx => ∃ (M2 : Im) (B0 O0 : List Int), Hid (IAt wx X M2) ∧ Hid (MvI c ((j : Int) + 1) M2) ∧ Hid (Rows2 wx gb go_ B0 O0) ∧ Hid (StK kd c B0 O0 M2.b.l M2.o.l) ∧ Hid (Kept [] w wx))
            case first => as_aux_lemma =>
              by_cases h1 : kd = 1
              · subst h1
                go_wp2_with fail
                refine (iwrite_yes HIM.out k ((j : Int) + 1) hkM (by omega) (by omega)).mono ?_
                rintro e w2 ⟨rfl, hi, hk⟩
                have HI2 := hide hi
                have HK2 := hide (HTU.out _ _ _ HKR.out hk (by obtain ⟨m1, m2, m3⟩ := X.tmem true; simp; exact ⟨m2, m3⟩))
                have HM2 := hide (HMV.out.put (by omega) true k)
                have HR2 := hide (HRX.out _ _ _ _ _ HRM.out hk (by obtain ⟨m1, m2, m3⟩ := X.tmem true; simp; exact ⟨m2, m3⟩))
                have c2 := HR2.out.cellO (getD_of (by rw [HMV.out.1.2]; exact hkn))
                have f2 := HR2.out.2.frozen k
                have HS := hide ((Kept.refl [go_] w2).set_ (b := go_) (.inl (by simp)) k (.int .i64 ((j : Int) + 1)))
                have HR3 := hide (HR2.out.setO HAP.out.2.2.1 k ((j : Int) + 1))
                clear hi hk
                go_wp2
                go_meet
                exact ⟨_, _, _, hide (HIO.out _ _ _ HI2.out HS.out), HM2, HR3, hide (StK.same HM2.out (by decide) (by decide)), hide (HTO.out _ _ HK2.out HS.out)⟩
              have d1 : (kd == 1) = false := beq_eq_false_iff_ne.2 h1
              by_cases h2 : kd = 2
              · subst h2
                go_wp2_with fail
                refine (itrim_yes HIM.out k z hz1 (by rw [HLN.out]; exact hkz)).mono ?_
                rintro e w2 ⟨v, rfl, ho, hi, hk⟩
                have HI2 := hide hi
                have HK2 := hide (HTU.out _ _ _ HKR.out hk (by obtain ⟨m1, m2, m3⟩ := X.tmem true; simp; exact ⟨m2, m3⟩))
                have HM2 := hide (HMV.out.drop (by omega) true k z)
                have HR2 := hide (HRX.out _ _ _ _ _ HRM.out hk (by obtain ⟨m1, m2, m3⟩ := X.tmem true; simp; exact ⟨m2, m3⟩))
                clear hi hk ho
                go_wp2
                go_loopw [12] (fun s12 wr => ∃ p : Nat, (k ≤ p ∧ p ≤ k + z) ∧ s12 = .int .i64 (p : Int) ∧ Hid (IAt wr X (M.laid true (likes k 0 z))) ∧ Hid (Rows2 wr gb go_ M.b.l ((M.o.lay (likes k 0 (p - k))).1.l)) ∧ Hid (Kept [] w wr)) (fun s12 _ => k + z - (intOf s12).toNat)
                case atStart => exact ⟨k, ⟨Nat.le_refl _, by omega⟩, rfl, HI2, hide (by rw [Nat.sub_self]; exact HR2.out), HK2⟩
                case round =>
                  clear HI2 HR2 HK2
                  obtain ⟨p, hp, rfl, HIs, HRs, HKs⟩ := hrel
                  by_cases hpz : p < k + z
                  · have hlt1 : (p : Int) < (k : Int) + (z : Int) := by omega
                    have hpc : p < c := by omega
                    have c2 := HRs.out.cellO (getD_of (b := p) (by rw [Tb.lay_len, HMV.out.1.2]; omega))
                    have f2 := HRs.out.2.frozen p
                    have HS := hide ((Kept.refl [go_] wr).set_ (b := go_) (.inl (by simp)) p (.int .i64 0))
                    have HR3 := hide (HRs.out.setO HAP.out.2.2.1 p 0)
                    have HLS := hide (show (M.o.lay (likes k 0 (p + 1 - k))).1.l = (M.o.lay (likes k 0 (p - k))).1.l.set p 0 from by rw [show p + 1 - k = (p - k) + 1 by omega, likes_step, show k + (p - k) = p by omega])
                    rw [← HLS.out] at HR3
                    go_wp2
                    go_roundw
                    case rel => exact ⟨p + 1, ⟨by omega, by omega⟩, by go_num, hide (HIO.out _ _ _ HIs.out HS.out), HR3, hide (HTO.out _ _ HKs.out HS.out)⟩
                    case measure => simp [intOf]; omega
                  · obtain rfl : p = k + z := by omega
                    have HRz := hide (show (Rows2 wr gb go_ M.b.l ((M.o.lay (likes k 0 (z))).1.l)) from by have := HRs.out; rwa [show k + z - k = z by omega] at this)
                    have hge : ¬ ((k + z : Nat) : Int) < (k : Int) + (z : Int) := by omega
                    go_wp2
                    go_meet
                    exact ⟨_, _, _, HIs, HM2, HRz, hide (StK.same HM2.out (by decide) (by decide)), HKs⟩
              have d2 : (kd == 2) = false := beq_eq_false_iff_ne.2 h2
              by_cases h3 : kd = 3
              · subst h3
                go_wp2_with fail
                refine (commit_any HIM.out).mono ?_
                rintro e w2 ⟨v, rfl, ho, hi, hk⟩
                have HI2 := hide hi
                have HK2 := hide (HTU.out _ _ _ HKR.out hk (by obtain ⟨m1, m2, m3, m4, m5, m6, m7⟩ := X.mem; simp; exact ⟨m3, m4, m6, m7⟩))
                have HM2 := hide (HMV.out.commit (by omega))
                have HR2 := hide (HRX.out _ _ _ _ _ HRM.out hk (by obtain ⟨m1, m2, m3, m4, m5, m6, m7⟩ := X.mem; simp; exact ⟨m3, m4, m6, m7⟩))
                clear hi hk ho
                go_wp2
                go_meet
                exact ⟨_, _, _, HI2, HM2, HR2, hide (StK.commit HMV.out), HK2⟩
              have d3 : (kd == 3) = false := beq_eq_false_iff_ne.2 h3
              by_cases h4 : kd = 4
              · subst h4
                go_wp2_with fail
                refine (forget_any HIM.out).mono ?_
                rintro e w2 ⟨v, rfl, ho, hi, hk⟩
                have HI2 := hide hi
                have HK2 := hide (HTU.out _ _ _ HKR.out hk (by obtain ⟨m1, m2, m3, m4, m5, m6, m7⟩ := X.mem; simp; exact ⟨m6, m7⟩))
                have HM2 := hide (HMV.out.forget (by omega))
                have HR2 := hide (HRX.out _ _ _ _ _ HRM.out hk (by obtain ⟨m1, m2, m3, m4, m5, m6, m7⟩ := X.mem; simp; exact ⟨m6, m7⟩))
                clear hi hk ho
                go_wp2
                go_meet
                exact ⟨_, _, _, HI2, HM2, HR2, hide (StK.forget HMV.out), HK2⟩
              have d4 : (kd == 4) = false := beq_eq_false_iff_ne.2 h4
              by_cases h5 : kd = 5
              · subst h5
                go_wp2_with fail
                refine (iput_yes HIM.out k ((j : Int) + 1) hkM (by omega) (by omega)).mono ?_
                rintro e w2 ⟨rfl, hi, hk⟩
                have HI2 := hide hi
                have HK2 := hide (HTU.out _ _ _ HKR.out hk (by obtain ⟨m1, m2, m3⟩ := X.tmem false; simp; exact ⟨m2, m3⟩))
                have HM2 := hide (HMV.out.put (by omega) false k)
                have HR2 := hide (HRX.out _ _ _ _ _ HRM.out hk (by obtain ⟨m1, m2, m3⟩ := X.tmem false; simp; exact ⟨m2, m3⟩))
                have c2 := HR2.out.cellB (getD_of (by rw [HMV.out.1.1]; exact hkn))
                have f2 := HR2.out.1.frozen k
                have HS := hide ((Kept.refl [gb] w2).set_ (b := gb) (.inl (by simp)) k (.int .i64 ((j : Int) + 1)))
                have HR3 := hide (HR2.out.setB HAP.out.2.2.1 k ((j : Int) + 1))
                clear hi hk
                go_wp2
                go_meet
                exact ⟨_, _, _, hide (HIB.out _ _ _ HI2.out HS.out), HM2, HR3, hide (StK.same HM2.out (by decide) (by decide)), hide (HTB.out _ _ HK2.out HS.out)⟩
              have d5 : (kd == 5) = false := beq_eq_false_iff_ne.2 h5
              by_cases h6 : kd = 6
              · subst h6
                go_wp2_with fail
                refine (idrop_yes HIM.out k z hz1 (by rw [HLN.out]; exact hkz)).mono ?_
                rintro e w2 ⟨v, rfl, ho, hi, hk⟩
                have HI2 := hide hi
                have HK2 := hide (HTU.out _ _ _ HKR.out hk (by obtain ⟨m1, m2, m3⟩ := X.tmem false; simp; exact ⟨m2, m3⟩))
                have HM2 := hide (HMV.out.drop (by omega) false k z)
                have HR2 := hide (HRX.out _ _ _ _ _ HRM.out hk (by obtain ⟨m1, m2, m3⟩ := X.tmem false; simp; exact ⟨m2, m3⟩))
                clear hi hk ho
                go_wp2
                go_loopw [13] (fun s13 wr => ∃ p : Nat, (k ≤ p ∧ p ≤ k + z) ∧ s13 = .int .i64 (p : Int) ∧ Hid (IAt wr X (M.laid false (likes k 0 z))) ∧ Hid (Rows2 wr gb go_ ((M.b.lay (likes k 0 (p - k))).1.l) M.o.l) ∧ Hid (Kept [] w wr)) (fun s13 _ => k + z - (intOf s13).toNat)
                case atStart => exact ⟨k, ⟨Nat.le_refl _, by omega⟩, rfl, HI2, hide (by rw [Nat.sub_self]; exact HR2.out), HK2⟩
                case round =>
                  clear HI2 HR2 HK2
                  obtain ⟨p, hp, rfl, HIs, HRs, HKs⟩ := hrel
                  by_cases hpz : p < k + z
                  · have hlt1 : (p : Int) < (k : Int) + (z : Int) := by omega
                    have hpc : p < c := by omega
                    have c2 := HRs.out.cellB (getD_of (b := p) (by rw [Tb.lay_len, HMV.out.1.1]; omega))
                    have f2 := HRs.out.1.frozen p
                    have HS := hide ((Kept.refl [gb] wr).set_ (b := gb) (.inl (by simp)) p (.int .i64 0))
                    have HR3 := hide (HRs.out.setB HAP.out.2.2.1 p 0)
                    have HLS := hide (show (M.b.lay (likes k 0 (p + 1 - k))).1.l = (M.b.lay (likes k 0 (p - k))).1.l.set p 0 from by rw [show p + 1 - k = (p - k) + 1 by omega, likes_step, show k + (p - k) = p by omega])
                    rw [← HLS.out] at HR3
                    go_wp2
                    go_roundw
                    case rel => exact ⟨p + 1, ⟨by omega, by omega⟩, by go_num, hide (HIB.out _ _ _ HIs.out HS.out), HR3, hide (HTB.out _ _ HKs.out HS.out)⟩
                    case measure => simp [intOf]; omega
                  · obtain rfl : p = k + z := by omega
                    have HRz := hide (show (Rows2 wr gb go_ ((M.b.lay (likes k 0 (z))).1.l) M.o.l) from by have := HRs.out; rwa [show k + z - k = z by omega] at this)
                    have hge : ¬ ((k + z : Nat) : Int) < (k : Int) + (z : Int) := by omega
                    go_wp2
                    go_meet
                    exact ⟨_, _, _, HIs, HM2, HRz, hide (StK.same HM2.out (by decide) (by decide)), HKs⟩
              have d6 : (kd == 6) = false := beq_eq_false_iff_ne.2 h6
              have HM2 := hide HMV.out.more
              go_wp2
              go_meet
              exact ⟨_, _, _, HIM, HM2, HRM, hide (StK.same HM2.out h3 h4), HKR⟩
            case rest => as_aux_lemma =>
              obtain ⟨M2, B0, O0, HI2, HM2, HR2, HST, HK2⟩ := hcut
              have HML := hide HM2.out.1.1
              obtain ⟨Bt, hBt⟩ : ∃ Bt, M2.b.l = Bt := ⟨_, rfl⟩
              obtain ⟨Ot, hOt⟩ : ∃ Ot, M2.o.l = Ot := ⟨_, rfl⟩
              rw [hBt, hOt] at HST
              have HBT := hide hBt
              have HOT := hide hOt
              have HRa := hide (show Rows2 wc gb go_ (mix B0 Bt 0) (mix O0 Ot 0) from by rw [mix_zero, mix_zero]; exact HR2.out)
              have HCP := hide (show cnt Ot c = (pendL Ot).length from by rw [← HST.out.l4]; exact cnt_pend (fun k hk => by have := HM2.out.low k (by rw [HST.out.l4] at hk; exact hk); rw [HOT.out] at this; exact this))
              have HLOW := hide (show ∀ k, k < c → -1 ≤ Ot.getD k 0 from fun k hk => by have := HM2.out.low k hk; rwa [HOT.out] at this)
              clear hBt hOt HR2 HIM HMV HRM HKR r0 r1 r2 HLN
              go_wp2
              go_loopw [4, 14, 15, 16, 17, 18, 19, 20] (fun _ t k _ _ _ _ _ wr => ∃ s : Nat, s ≤ c ∧ k = .int .i64 s ∧ t = .int .i64 (cnt Ot s : Nat) ∧ Hid (IAt wr X M2) ∧ Hid (Rows2 wr gb go_ (mix B0 Bt s) (mix O0 Ot s)) ∧ Hid (Kept [] w wr)) (fun _ _ k _ _ _ _ _ _ => c - (intOf k).toNat)
              case atStart => exact ⟨0, Nat.zero_le _, rfl, rfl, HI2, HRa, HK2⟩
              case round =>
                clear HI2 HRa HK2
                obtain ⟨s, hs, rfl, rfl, HIk, HRk, HKk⟩ := hrel
                have hcs := cnt_le Ot s
                by_cases hsc : s < c
                · have r0 := HKk.out.cell HQ0.out (by simp)
                  obtain ⟨x0, hx0⟩ : ∃ x, B0.getD s 0 = x := ⟨_, rfl⟩
                  obtain ⟨y0, hy0⟩ : ∃ y, O0.getD s 0 = y := ⟨_, rfl⟩
                  have HXa := hide (show (mix B0 Bt s)[s]? = some x0 from by rw [mix_at HST.out.l1 HST.out.l3 hsc, hx0])
                  have HYa := hide (show (mix O0 Ot s)[s]? = some y0 from by rw [mix_at HST.out.l2 HST.out.l4 hsc, hy0])
                  have cb0 := HRk.out.cellB HXa.out
                  have co0 := HRk.out.cellO HYa.out
                  have HREF := hide (fun (W : World) (h : IAt W X M2) => ref_yes h s (by rw [HML.out]; exact hsc))
                  have HLOOK := hide (fun (W : World) (h : IAt W X M2) => look_yes h s (by rw [HML.out]; exact hsc))
                  rw [HBT.out] at HREF
                  rw [HBT.out, HOT.out] at HLOOK
                  have HSB := hide (mix_set HST.out.l1 HST.out.l3 hsc)
                  have HSO := hide (mix_set HST.out.l2 HST.out.l4 hsc)
                  have HEB := hide (fun h => mix_same (k := s) HST.out.l1 HST.out.l3 hsc h)
                  have HEO := hide (fun h => mix_same (k := s) HST.out.l2 HST.out.l4 hsc h)
                  have HCY := hide (fun h => cnt_yes (os := Ot) (k := s) h)
                  have HCN := hide (fun h => cnt_no (os := Ot) (k := s) h)
                  have hylow : -1 ≤ y0 := by rw [← hy0]; exact HST.out.low s hsc
                  have HX0 := hide hx0
                  have HY0 := hide hy0
                  clear hx0 hy0
                  by_cases h3 : kd = 3
                  · have h4 : kd ≠ 4 := by omega
                    by_cases hy : y0 ≥ 0
                    · have d3 : (kd == 3) = true := beq_iff_eq.2 h3
                      have d4 : (kd == 4) = false := beq_eq_false_iff_ne.2 h4
                      have dy : decide (y0 ≥ 0) = true := decide_eq_true hy
                      have HXT := hide (show Bt.getD s 0 = y0 from by rw [(HST.out.three h3 s hsc).2, HY0.out, if_neg (by omega)])
                      have HYT := hide (show Ot.getD s 0 = -1 from (HST.out.three h3 s hsc).1)
                      clear h3 h4
                      have cB0 := HRk.out.cellB (x := x0) HXa.out
                      have fB0 := HRk.out.1.frozen s
                      have HS0 := hide ((Kept.refl [gb] wr).set_ (b := gb) (.inl (by simp)) s (.int .i64 (y0)))
                      have HR0 := hide (HRk.out.setB HAP.out.2.2.1 s (y0))
                      have HI0 := hide (HIB.out _ _ _ HIk.out HS0.out)
                      have HK0 := hide (HTB.out _ _ HKk.out HS0.out)
                      obtain ⟨ws0, hws0⟩ : ∃ ws, wr.setCell ⟨gb, s, none⟩ (.int .i64 (y0)) = ws := ⟨_, rfl⟩
                      rw [hws0] at HS0 HR0 HI0 HK0
                      have rk0 := HK0.out.cell HQ0.out (by simp)
                      have cO1 := HR0.out.cellO (x := y0) HYa.out
                      have fO1 := HR0.out.2.frozen s
                      have HS1 := hide ((Kept.refl [go_] ws0).set_ (b := go_) (.inl (by simp)) s (.int .i64 (-1)))
                      have HR1 := hide (HR0.out.setO HAP.out.2.2.1 s (-1))
                      have HI1 := hide (HIO.out _ _ _ HI0.out HS1.out)
                      have HK1 := hide (HTO.out _ _ HK0.out HS1.out)
                      obtain ⟨ws1, hws1⟩ : ∃ ws, ws0.setCell ⟨go_, s, none⟩ (.int .i64 (-1)) = ws := ⟨_, rfl⟩
                      rw [hws1] at HS1 HR1 HI1 HK1
                      have rk1 := HK1.out.cell HQ0.out (by simp)
                      have cbz := HR1.out.cellB (k := s) (x := y0) (by rw [List.getElem?_set_self ((List.getElem?_eq_some_iff.1 HXa.out).1)])
                      have coz := HR1.out.cellO (k := s) (x := -1) (by rw [List.getElem?_set_self ((List.getElem?_eq_some_iff.1 HYa.out).1)])
                      have cbm := HR0.out.cellB (k := s) (x := y0) (by rw [List.getElem?_set_self ((List.getElem?_eq_some_iff.1 HXa.out).1)])
                      have com := HR0.out.cellO (k := s) HYa.out
                      have fom := HR0.out.2.frozen s
                      go_wp2_with fail
                      refine (HREF.out _ HI1.out).mono ?_
                      rintro e w' ⟨rfl, rfl⟩
                      rw [HXT.out]
                      go_wp2_with fail
                      refine (HLOOK.out _ HI1.out).mono ?_
                      rintro e w' ⟨rfl, rfl⟩
                      rw [HXT.out, HYT.out]
                      rw [if_pos rfl]
                      go_wp2
                      go_roundw
                      case rel => exact ⟨s + 1, by omega, by go_num, by rw [HCN.out (by rw [HYT.out]; omega)], HI1, hide (by rw [← HSB.out, HXT.out, ← HSO.out, HYT.out]; exact HR1.out), HK1⟩
                      case measure => simp [intOf]; omega
                    · obtain rfl : y0 = -1 := by omega
                      have d3 : (kd == 3) = true := beq_iff_eq.2 h3
                      have d4 : (kd == 4) = false := beq_eq_false_iff_ne.2 h4
                      have dy : decide ((-1 : Int) ≥ 0) = false := decide_eq_false hy
                      have HXT := hide (show Bt.getD s 0 = x0 from by rw [(HST.out.three h3 s hsc).2, HY0.out, if_pos rfl, HX0.out])
                      have HYT := hide (show Ot.getD s 0 = -1 from (HST.out.three h3 s hsc).1)
                      clear h3 h4
                      have cO0 := HRk.out.cellO (x := (-1 : Int)) HYa.out
                      have fO0 := HRk.out.2.frozen s
                      have HS0 := hide ((Kept.refl [go_] wr).set_ (b := go_) (.inl (by simp)) s (.int .i64 (-1)))
                      have HR0 := hide (HRk.out.setO HAP.out.2.2.1 s (-1))
                      have HI0 := hide (HIO.out _ _ _ HIk.out HS0.out)
                      have HK0 := hide (HTO.out _ _ HKk.out HS0.out)
                      obtain ⟨ws0, hws0⟩ : ∃ ws, wr.setCell ⟨go_, s, none⟩ (.int .i64 (-1)) = ws := ⟨_, rfl⟩
                      rw [hws0] at HS0 HR0 HI0 HK0
                      have rk0 := HK0.out.cell HQ0.out (by simp)
                      have cbz := HR0.out.cellB (k := s) HXa.out
                      have coz := HR0.out.cellO (k := s) (x := -1) (by rw [List.getElem?_set_self ((List.getElem?_eq_some_iff.1 HYa.out).1)])
                      go_wp2_with fail
                      refine (HREF.out _ HI0.out).mono ?_
                      rintro e w' ⟨rfl, rfl⟩
                      rw [HXT.out]
                      go_wp2_with fail
                      refine (HLOOK.out _ HI0.out).mono ?_
                      rintro e w' ⟨rfl, rfl⟩
                      rw [HXT.out, HYT.out]
                      rw [if_pos rfl]
                      go_wp2
                      go_roundw
                      case rel => exact ⟨s + 1, by omega, by go_num, by rw [HCN.out (by rw [HYT.out]; omega)], HI0, hide (by rw [HEB.out (HXT.out.trans HX0.out.symm), ← HSO.out, HYT.out]; exact HR0.out), HK0⟩
                      case measure => simp [intOf]; omega
                  by_cases h4 : kd = 4
                  · by_cases hy : y0 ≥ 0
                    · have d3 : (kd == 3) = false := beq_eq_false_iff_ne.2 h3
                      have d4 : (kd == 4) = true := beq_iff_eq.2 h4
                      have dy : decide (y0 ≥ 0) = true := decide_eq_true hy
                      have HXT := hide (show Bt.getD s 0 = x0 from by rw [(HST.out.four h4 s hsc).2, HX0.out])
                      have HYT := hide (show Ot.getD s 0 = -1 from (HST.out.four h4 s hsc).1)
                      clear h3 h4
                      have cO0 := HRk.out.cellO (x := y0) HYa.out
                      have fO0 := HRk.out.2.frozen s
                      have HS0 := hide ((Kept.refl [go_] wr).set_ (b := go_) (.inl (by simp)) s (.int .i64 (-1)))
                      have HR0 := hide (HRk.out.setO HAP.out.2.2.1 s (-1))
                      have HI0 := hide (HIO.out _ _ _ HIk.out HS0.out)
                      have HK0 := hide (HTO.out _ _ HKk.out HS0.out)
                      obtain ⟨ws0, hws0⟩ : ∃ ws, wr.setCell ⟨go_, s, none⟩ (.int .i64 (-1)) = ws := ⟨_, rfl⟩
                      rw [hws0] at HS0 HR0 HI0 HK0
                      have rk0 := HK0.out.cell HQ0.out (by simp)
                      have cbz := HR0.out.cellB (k := s) HXa.out
                      have coz := HR0.out.cellO (k := s) (x := -1) (by rw [List.getElem?_set_self ((List.getElem?_eq_some_iff.1 HYa.out).1)])
                      go_wp2_with fail
                      refine (HREF.out _ HI0.out).mono ?_
                      rintro e w' ⟨rfl, rfl⟩
                      rw [HXT.out]
                      go_wp2_with fail
                      refine (HLOOK.out _ HI0.out).mono ?_
                      rintro e w' ⟨rfl, rfl⟩
                      rw [HXT.out, HYT.out]
                      rw [if_pos rfl]
                      go_wp2
                      go_roundw
                      case rel => exact ⟨s + 1, by omega, by go_num, by rw [HCN.out (by rw [HYT.out]; omega)], HI0, hide (by rw [HEB.out (HXT.out.trans HX0.out.symm), ← HSO.out, HYT.out]; exact HR0.out), HK0⟩
                      case measure => simp [intOf]; omega
                    · obtain rfl : y0 = -1 := by omega
                      have d3 : (kd == 3) = false := beq_eq_false_iff_ne.2 h3
                      have d4 : (kd == 4) = true := beq_iff_eq.2 h4
                      have dy : decide ((-1 : Int) ≥ 0) = false := decide_eq_false hy
                      have HXT := hide (show Bt.getD s 0 = x0 from by rw [(HST.out.four h4 s hsc).2, HX0.out])
                      have HYT := hide (show Ot.getD s 0 = -1 from (HST.out.four h4 s hsc).1)
                      clear h3 h4
                      have cO0 := HRk.out.cellO (x := (-1 : Int)) HYa.out
                      have fO0 := HRk.out.2.frozen s
                      have HS0 := hide ((Kept.refl [go_] wr).set_ (b := go_) (.inl (by simp)) s (.int .i64 (-1)))
                      have HR0 := hide (HRk.out.setO HAP.out.2.2.1 s (-1))
                      have HI0 := hide (HIO.out _ _ _ HIk.out HS0.out)
                      have HK0 := hide (HTO.out _ _ HKk.out HS0.out)
                      obtain ⟨ws0, hws0⟩ : ∃ ws, wr.setCell ⟨go_, s, none⟩ (.int .i64 (-1)) = ws := ⟨_, rfl⟩
                      rw [hws0] at HS0 HR0 HI0 HK0
                      have rk0 := HK0.out.cell HQ0.out (by simp)
                      have cbz := HR0.out.cellB (k := s) HXa.out
                      have coz := HR0.out.cellO (k := s) (x := -1) (by rw [List.getElem?_set_self ((List.getElem?_eq_some_iff.1 HYa.out).1)])
                      go_wp2_with fail
                      refine (HREF.out _ HI0.out).mono ?_
                      rintro e w' ⟨rfl, rfl⟩
                      rw [HXT.out]
                      go_wp2_with fail
                      refine (HLOOK.out _ HI0.out).mono ?_
                      rintro e w' ⟨rfl, rfl⟩
                      rw [HXT.out, HYT.out]
                      rw [if_pos rfl]
                      go_wp2
                      go_roundw
                      case rel => exact ⟨s + 1, by omega, by go_num, by rw [HCN.out (by rw [HYT.out]; omega)], HI0, hide (by rw [HEB.out (HXT.out.trans HX0.out.symm), ← HSO.out, HYT.out]; exact HR0.out), HK0⟩
                      case measure => simp [intOf]; omega
                  by_cases hy : y0 ≥ 0
                  · have d3 : (kd == 3) = false := beq_eq_false_iff_ne.2 h3
                    have d4 : (kd == 4) = false := beq_eq_false_iff_ne.2 h4
                    have dy : decide (y0 ≥ 0) = true := decide_eq_true hy
                    have HXT := hide (show Bt.getD s 0 = x0 from by rw [(HST.out.else_ h3 h4 s hsc).2, HX0.out])
                    have HYT := hide (show Ot.getD s 0 = y0 from by rw [(HST.out.else_ h3 h4 s hsc).1, HY0.out])
                    clear h3 h4
                    go_wp2_with fail
                    refine (HREF.out _ HIk.out).mono ?_
                    rintro e w' ⟨rfl, rfl⟩
                    rw [HXT.out]
                    go_wp2_with fail
                    refine (HLOOK.out _ HIk.out).mono ?_
                    rintro e w' ⟨rfl, rfl⟩
                    rw [HXT.out, HYT.out]
                    rw [if_neg (show ¬ y0 = -1 from by omega)]
                    go_wp2
                    go_roundw
                    case rel => exact ⟨s + 1, by omega, by go_num, by rw [HCY.out (by rw [HYT.out]; omega)]; go_num, HIk, hide (by rw [HEB.out (HXT.out.trans HX0.out.symm), HEO.out (HYT.out.trans HY0.out.symm)]; exact HRk.out), HKk⟩
                    case measure => simp [intOf]; omega
                  · obtain rfl : y0 = -1 := by omega
                    have d3 : (kd == 3) = false := beq_eq_false_iff_ne.2 h3
                    have d4 : (kd == 4) = false := beq_eq_false_iff_ne.2 h4
                    have dy : decide ((-1 : Int) ≥ 0) = false := decide_eq_false hy
                    have HXT := hide (show Bt.getD s 0 = x0 from by rw [(HST.out.else_ h3 h4 s hsc).2, HX0.out])
                    have HYT := hide (show Ot.getD s 0 = -1 from by rw [(HST.out.else_ h3 h4 s hsc).1, HY0.out])
                    clear h3 h4
                    go_wp2_with fail
                    refine (HREF.out _ HIk.out).mono ?_
                    rintro e w' ⟨rfl, rfl⟩
                    rw [HXT.out]
                    go_wp2_with fail
                    refine (HLOOK.out _ HIk.out).mono ?_
                    rintro e w' ⟨rfl, rfl⟩
                    rw [HXT.out, HYT.out]
                    rw [if_pos rfl]
                    go_wp2
                    go_roundw
                    case rel => exact ⟨s + 1, by omega, by go_num, by rw [HCN.out (by rw [HYT.out]; omega)], HIk, hide (by rw [HEB.out (HXT.out.trans HX0.out.symm), HEO.out (HYT.out.trans HY0.out.symm)]; exact HRk.out), HKk⟩
                    case measure => simp [intOf]; omega
                · obtain rfl : s = c := by omega
                  have HRz := hide (show Rows2 wr gb go_ M2.b.l M2.o.l from by have := HRk.out; rw [mix_all HST.out.l1 HST.out.l3, mix_all HST.out.l2 HST.out.l4] at this; rw [HBT.out, HOT.out]; exact this)
                  go_wp2_with fail
                  refine (pending_any HIk.out).mono ?_
                  rintro e w9 ⟨rfl, hk9⟩
                  rw [HOT.out, ← HCP.out]
                  have HI9 := hide (HIk.out.keep hk9)
                  have HR9 := hide (HRX.out _ _ [] _ _ HRz.out hk9 (by simp))
                  have HK9 := hide (HKk.out.trans hk9 (by simp))
                  clear hk9
                  go_wp2
                  go_roundw
                  case rel => exact ⟨j + 1, _, by omega, by go_num, HI9, HM2, HR9, HK9⟩
                  case measure => simp [intOf]; omega
          · obtain rfl : j = len1 := by omega
            go_wp2_with fail
            refine (awake_any _).mono ?_
            rintro e w7 ⟨rfl, hk7⟩
            have HK7 := hide ((HKR.out.trans hk7 (by simp)).below (by simp))
            clear hk7
            go_wp2
            go_ret
            exact ⟨rfl, HK7.out⟩

/-! ### the row's step, as the guide's skeleton has it -/
set_option maxRecDepth 100000 in
theorem lifted (os : Os) (started : os.Started) (H : Type) (enc : TypeId × Value → H) :
    ReturnsInHanded {} Try.checked os 4 .any (Rows.imageStandsSpec.pre6 enc Try.prog Try.f4 Rows.imageStandsRow.domain false) (Rows.imageStandsSpec.post enc Try.prog Try.f4 false true false false) := by
  refine returnsInHanded_of_change (C := Try.checked) own started (by kernel_rfl) Try.func4
    (ChangeSpec.witness6 (enc := enc) (C := Try.checked) false ⟨#[], #[.int .i64 0, .slice none 0 0], []⟩ 8 (by kernel_rfl) (by kernel_rfl) (by kernel_rfl) (by kernel_rfl)) ?_
  intro W base args ds gs before hval0 hW hcnd _
  have hval : ∀ (j : Nat) t v, Try.f4.params[j]? = some t → args[j]? = some v → Value.okWide Try.prog W .any base t v := hval0
  have hW' := hW
  obtain ⟨p, q, hA0, hV, rfl, hfz, hnd⟩ := hW
  have hA : DataW.TrodAll enc Try.prog W 0 (fun _ => true) true Try.f4.params.toList args.toList ds p := hA0
  rw [Try.params4] at hA hval
  obtain ⟨v0, vs0, d0, ds0, p0, q0, hargs, rfl, rfl, h0, r0⟩ := trodAll_cons hA
  obtain ⟨v1, vs1, d1, ds1, p1, q1, rfl, rfl, rfl, h1, r1⟩ := trodAll_cons r0
  obtain ⟨rfl, rfl, rfl⟩ := trodAll_nil r1
  obtain rfl : args = #[v0, v1] := by cases args; simp_all
  obtain ⟨rfl, rfl⟩ := trodVars_none hV
  obtain ⟨a0, rfl, rfl, rfl, w0⟩ := open_int Try.underlying3 (hval 0 3 v0 rfl rfl) h0
  obtain ⟨a1, len1, cap1, rfl⟩ := okWide_slice Try.underlying45 (hval 1 45 v1 rfl rfl)
  have k1 := h1
  have lt1 : ∀ x ∈ p1, x.block < W.heap.size := by obtain ⟨m, hm⟩ := k1; exact DataW.trod_lt m _ _ _ hm
  obtain ⟨l1, e1, w1, b1⟩ : ∃ l : List (List Int), l.length = len1 ∧ Slab W 3 a1 l ∧ len1 ≤ cap1 ∧ cap1 ≤ maxLen := by
    obtain ⟨fuel, hf⟩ := h1
    exact slab_of Try.underlying45 (by kernel_rfl) (fun _ cs x hl h => struct_cells Try.underlying3 Try.underlying48 (by kernel_rfl) (by simp) (by kernel_rfl) _ cs x hl h) hf
  clear hA0 hval0
  refine (walk a0 a1 len1 cap1 l1 W w0 w1 e1 b1).mono fun e W' ⟨he, bel⟩ => ?_
  subst he
  exact ⟨_, rfl, _, _, _, [], _, [], hW', trodAll_mk1 (shut_bool Try.underlying4 _), (trodAll_cons_mk (shut_int Try.underlying3 w0) (trodAll_cons_mk (Below.trod laidOut (by kernel_rfl) (of_decide_eq_true (by kernel_rfl)) k1 bel lt1) trodAll_mk0)), rfl, bel.frame _, fun h => by cases h⟩

theorem over : Rows.imageStandsRow.holds Try.pinned (OpenSpec.ofChange Rows.imageStandsSpec) :=
  OpenClaim.holds_of_wide 4 Try.f4 rfl rfl rfl rfl rfl rfl rfl ⟨rfl, rfl, rfl, rfl, rfl⟩ rfl rfl rfl rfl rfl (by kernel_rfl) Try.func4 (by kernel_rfl)
    (of_decide_eq_true (by kernel_rfl)) (by unfold Func.isWrapper; first | (rw [if_pos (by decide +kernel)]; kernel_rfl) | (rw [if_neg (by decide +kernel)]; exact ⟨rfl, rfl⟩))
    (fun os started H enc _ => lifted os started H enc)

/-- The statement. -/
theorem proved : Rows.ImageStandsSaid := over
#print axioms proved
end Go.Proofs.Ytlgdjbilffjknaa.imageStands

