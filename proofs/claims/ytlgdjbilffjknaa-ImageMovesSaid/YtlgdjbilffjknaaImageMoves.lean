/-
  The given statement ImageMovesSaid is proved: whatever the arguments are, the law returns true and leaves its input as it was. No conditions.
-/
import Derived.Test.YtlgdjbilffjknaaShapes
import Derived.Test.YtlgdjbilffjknaaSlabs
import Derived.Test.YtlgdjbilffjknaaImageAwake
import Derived.Test.YtlgdjbilffjknaaImagePure
import Derived.Test.YtlgdjbilffjknaaAlike
import Derived.Test.YtlgdjbilffjknaaOwns
import Derived.Test.YtlgdjbilffjknaaFar
import Derived.WalkKit
import Derived.ProofKit
import Derived.OpenShut
import Derived.ShutString
import Derived.ChangeOld
import Derived.Below
namespace Go.Proofs.Ytlgdjbilffjknaa.imageMoves
open Go.ChangeShapes Go.WideShapes Go.ChangeAt Go.RowKit
open Go.ChangeMaps (open_string shut_string)
open Go.Proofs.Ytlgdjbilffjknaa.mem Go.Proofs.Ytlgdjbilffjknaa.base Go.Proofs.Ytlgdjbilffjknaa.im Go.Proofs.Ytlgdjbilffjknaa.pd Go.Proofs.Ytlgdjbilffjknaa.pg Go.Proofs.Ytlgdjbilffjknaa.owns
set_option linter.unusedVariables false

theorem own : ownKnob Try.prog.godebug = none := by kernel_rfl
theorem laidOut : laidOutB Try.prog = true := by kernel_rfl

set_option maxRecDepth 100000 in
set_option maxHeartbeats 4000000 in
theorem walk (a0 : Int) (a1 : Option Addr) (len1 cap1 : Nat) (l1 : List (List Int)) (a2 : Int) (a3 : Bool) (a4 : Int) (w : World) (w0 : (Lit.int .i64 a0).wf = true) (w1 : Slab w 3 a1 l1) (e1 : l1.length = len1) (b1 : len1 ≤ cap1 ∧ cap1 ≤ maxLen) (w2 : (Lit.int .i64 a2).wf = true) (w4 : (Lit.int .i64 a4).wf = true) :
    Calls Try.prog 6 #[.int .i64 a0, .slice a1 len1 cap1, .int .i64 a2, .bool a3, .int .i64 a4] w fun e w' => e = .returned (.bool true) ∧ Below w.heap.size w w' := by
  by_cases hn1 : a0 < 1
  · have hd1 : decide (a0 < 1) = true := decide_eq_true hn1
    clear w1
    go_enter Try.func6, Try.ntmps6
    go_wp2_with fail
    refine (awake_any _).mono ?_
    rintro e w' ⟨rfl, hk⟩
    have HB := hide (hk.below (by simp))
    clear hk
    go_wp2
    go_ret
    exact ⟨rfl, HB.out⟩
  have hd1 : decide (a0 < 1) = false := decide_eq_false hn1
  by_cases hn2 : a0 > 64
  · have hd2 : decide (a0 > 64) = true := decide_eq_true hn2
    clear w1
    go_enter Try.func6, Try.ntmps6
    go_wp2_with fail
    refine (awake_any _).mono ?_
    rintro e w' ⟨rfl, hk⟩
    have HB := hide (hk.below (by simp))
    clear hk
    go_wp2
    go_ret
    exact ⟨rfl, HB.out⟩
  have hd2 : decide (a0 > 64) = false := decide_eq_false hn2
  by_cases hn3 : (len1 : Int) > 40
  · have hd3 : decide ((len1 : Int) > 40) = true := decide_eq_true hn3
    clear w1
    go_enter Try.func6, Try.ntmps6
    go_wp2_with fail
    refine (awake_any _).mono ?_
    rintro e w' ⟨rfl, hk⟩
    have HB := hide (hk.below (by simp))
    clear hk
    go_wp2
    go_ret
    exact ⟨rfl, HB.out⟩
  have hd3 : decide ((len1 : Int) > 40) = false := decide_eq_false hn3
  obtain ⟨n, rfl⟩ : ∃ n : Nat, a0 = (n : Int) := ⟨a0.toNat, by omega⟩
  have hb1 : 1 ≤ n := by omega
  have hb2 : n ≤ 64 := by omega
  have hb3 : len1 ≤ 40 := by omega
  have HSL := hide w1
  have HE1 := hide e1
  clear w1 e1 hn1 hn2 hn3
  go_enter Try.func6, Try.ntmps6
  go_wp2_with fail
  refine (inew_yes n _ hb1 hb2).mono ?_
  rintro e wA ⟨X, rfl, hxn, hi, hk⟩
  have HXN := hide hxn
  have HI := hide hi
  have HK := hide hk
  clear hxn hi hk
  go_wp2
  go_loopw [12, 13] (fun i k wr => ∃ (j : Nat) (M : Im), j ≤ len1 ∧ i = .int .i64 j ∧ Hid (IAt wr X M) ∧ Hid (MvI n j M) ∧ Hid (Kept [] w wr)) (fun i _ _ => len1 - (intOf i).toNat)
  case atStart => exact ⟨0, Im.fresh n, Nat.zero_le _, rfl, HI, hide MvI.fresh, HK⟩
  case round =>
    obtain ⟨j, M, hj, rfl, HIM, HMV, HKR⟩ := hrel
    have HLN := hide HMV.out.1.1
    have HTU := hide (show ∀ (S : List Nat) (W1 W2 : World), Kept [] w W1 → Kept S W1 W2 → (∀ y ∈ S, y ∈ X.all) → Kept [] w W2 from fun S W1 W2 k1 k2 hs => k1.trans k2 (fun y hy => .inr (HXN.out y (hs y hy))))
    by_cases hlt : j < len1
    · obtain ⟨ad, kd, bb, nn, rfl, _, q0, q1, q2⟩ := deed_at HSL.out (i := j) (by rw [HE1.out]; exact hlt)
      have hbl : ad.block < w.heap.size := by have := block_lt_of_cell q0; rwa [block_of_add] at this
      have hnx : ∀ (p : Addr) (v : Value), w.cell? p = some v → wr.cell? p = some v := fun p v hc => HKR.out.cell hc (by simp)
      have r0 := hnx _ _ q0
      have r1 := hnx _ _ q1
      clear q0 q1 q2 hnx hbl
      obtain ⟨k, hk0⟩ : ∃ k : Nat, bb % (n : Int) = (k : Int) := ⟨(bb % (n : Int)).toNat, by have := Int.emod_nonneg bb (b := (n : Int)) (by omega); omega⟩
      have hkn : k < n := by have := Int.emod_lt_of_pos bb (b := (n : Int)) (by omega); omega
      have hkM : k < M.b.l.length := by rw [HLN.out]; exact hkn
      have HKE := hide hk0
      clear hk0
      go_wp2_with fail
      refine (round_any bb n _ (by omega) (by omega)).mono ?_
      rintro e w' ⟨rfl, rfl⟩
      rw [HKE.out]
      by_cases h1 : kd = 1
      · subst h1
        go_wp2_with fail
        refine (iwrite_yes HIM.out k ((j : Int) + 1) hkM (by omega) (by omega)).mono ?_
        rintro e w2 ⟨rfl, hi, hk⟩
        have HI2 := hide hi
        have HK2 := hide (HTU.out _ _ _ HKR.out hk (by obtain ⟨m1, m2, m3⟩ := X.tmem true; simp; exact ⟨m2, m3⟩))
        have HM2 := hide (HMV.out.put (by omega) true k)
        clear hi hk
        go_wp2
        go_roundw
        case rel => exact ⟨j + 1, _, by omega, by go_num, HI2, HM2, HK2⟩
        case measure => simp [intOf]; omega
      have d1 : (kd == 1) = false := beq_eq_false_iff_ne.2 h1
      clear h1
      by_cases h2 : kd = 2
      · subst h2
        go_wp2_with fail
        refine (itrim_yes HIM.out k 1 (by decide) (by omega)).mono ?_
        rintro e w2 ⟨v, rfl, ho, hi, hk⟩
        have HI2 := hide hi
        have HK2 := hide (HTU.out _ _ _ HKR.out hk (by obtain ⟨m1, m2, m3⟩ := X.tmem true; simp; exact ⟨m2, m3⟩))
        have HM2 := hide (HMV.out.drop (by omega) true k 1)
        clear hi hk ho
        go_wp2
        go_roundw
        case rel => exact ⟨j + 1, _, by omega, by go_num, HI2, HM2, HK2⟩
        case measure => simp [intOf]; omega
      have d2 : (kd == 2) = false := beq_eq_false_iff_ne.2 h2
      clear h2
      by_cases h3 : kd = 3
      · subst h3
        go_wp2_with fail
        refine (commit_any HIM.out).mono ?_
        rintro e w2 ⟨v, rfl, ho, hi, hk⟩
        have HI2 := hide hi
        have HK2 := hide (HTU.out _ _ _ HKR.out hk (by obtain ⟨m1, m2, m3, m4, m5, m6, m7⟩ := X.mem; simp; exact ⟨m3, m4, m6, m7⟩))
        have HM2 := hide (HMV.out.commit (by omega))
        clear hi hk ho
        go_wp2
        go_roundw
        case rel => exact ⟨j + 1, _, by omega, by go_num, HI2, HM2, HK2⟩
        case measure => simp [intOf]; omega
      have d3 : (kd == 3) = false := beq_eq_false_iff_ne.2 h3
      clear h3
      by_cases h5 : kd = 5
      · subst h5
        go_wp2_with fail
        refine (iput_yes HIM.out k ((j : Int) + 1) hkM (by omega) (by omega)).mono ?_
        rintro e w2 ⟨rfl, hi, hk⟩
        have HI2 := hide hi
        have HK2 := hide (HTU.out _ _ _ HKR.out hk (by obtain ⟨m1, m2, m3⟩ := X.tmem false; simp; exact ⟨m2, m3⟩))
        have HM2 := hide (HMV.out.put (by omega) false k)
        clear hi hk
        go_wp2
        go_roundw
        case rel => exact ⟨j + 1, _, by omega, by go_num, HI2, HM2, HK2⟩
        case measure => simp [intOf]; omega
      have d5 : (kd == 5) = false := beq_eq_false_iff_ne.2 h5
      clear h5
      have HM2 := hide HMV.out.more
      go_wp2
      go_roundw
      case rel => exact ⟨j + 1, _, by omega, by go_num, HIM, HM2, HKR⟩
      case measure => simp [intOf]; omega
    · obtain rfl : j = len1 := by omega
      obtain ⟨wo, hwo⟩ : ∃ wo, wo = wr := ⟨_, rfl⟩
      subst hwo
      obtain ⟨k, hk0⟩ : ∃ k : Nat, a2 % (n : Int) = (k : Int) := ⟨(a2 % (n : Int)).toNat, by have := Int.emod_nonneg a2 (b := (n : Int)) (by omega); omega⟩
      have hkn : k < n := by have := Int.emod_lt_of_pos a2 (b := (n : Int)) (by omega); omega
      have hkM : k < M.b.l.length := by rw [HLN.out]; exact hkn
      have HKE := hide hk0
      obtain ⟨q, hq0⟩ : ∃ q : Nat, a4 % 500 = (q : Int) := ⟨(a4 % 500).toNat, by omega⟩
      have hqn : q < 500 := by omega
      have HQE := hide hq0
      clear hk0 hq0
      go_wp2_with fail
      refine (round_any a2 n _ (by omega) (by omega)).mono ?_
      rintro e w' ⟨rfl, rfl⟩
      rw [HKE.out]
      go_wp2_with fail
      refine (refs_any HIM.out 300 (by decide)).mono ?_
      rintro e w1 ⟨v1, rfl, ho1, hk1⟩
      obtain ⟨A1, c1, hv1, hc1⟩ := own_read ho1
      subst hv1
      have HO1 := hide ho1
      have HB1 := hide (HKR.out.size)
      have HI1 := hide (HIM.out.keep hk1)
      have HK1 := hide (HKR.out.trans hk1 (by simp))
      clear ho1 hk1 hc1
      go_wp2_with fail
      refine (round_any a4 500 _ (by decide) (by decide)).mono ?_
      rintro e w' ⟨rfl, rfl⟩
      rw [HQE.out]
      have hqw : IntKind.i64.wrap (500 + (q : Int)) = 500 + (q : Int) := by rw [IntKind.wrap_i64]; omega
      have HNO := hide (move_none HMV.out k hkn (500 + (q : Int)) 2000 (by omega))
      have HNX := hide (show ∀ (W1 W2 : World), Kept [] w W1 → Kept [X.V, X.D, X.U, X.E] W1 W2 → Kept [] w W2 from fun W1 W2 k1 k2 => HTU.out _ _ _ k1 k2 (by obtain ⟨m1, m2, m3, m4, m5, m6, m7⟩ := X.mem; simp; exact ⟨m3, m4, m6, m7⟩))
      have HFAR := hide (show ∀ y ∈ [X.V, X.D, X.U, X.E], y < wo.heap.size from fun y hy => by
        obtain ⟨m1, m2, m3, m4, m5, m6, m7⟩ := X.mem
        have hl := HIM.out.lt
        simp only [List.mem_cons, List.not_mem_nil, or_false] at hy
        rcases hy with rfl | rfl | rfl | rfl
        · exact hl _ m3
        · exact hl _ m4
        · exact hl _ m6
        · exact hl _ m7)
      have HOK := hide (show ∀ (W1 W2 : World) (S : List Nat), W1.ownsRow wo.heap.size 55 2 (.slice A1 (refsL M).length c1) (refsL M).length (cellsR (refsL M)) → Kept S W1 W2 → (∀ y ∈ S, y < wo.heap.size) → W2.ownsRow wo.heap.size 55 2 (.slice A1 (refsL M).length c1) (refsL M).length (cellsR (refsL M)) from fun W1 W2 S h1 k1 hs => own_keep h1 k1 (fun i hi hm => by have := hs i hi; have := (own_blk h1 i hm).1; omega))
      go_wp2_with fail
      refine (move_in HI1.out k (500 + (q : Int)) 2000 (by omega) (by decide) (by decide) hkM).mono ?_
      rintro e w2 ⟨rfl, hi, hk⟩
      rw [HNO.out] at hi ⊢
      have HI2 := hide (show IAt w2 X M from hi)
      have HO2 := hide (HOK.out _ _ _ HO1.out hk HFAR.out)
      have HK2 := hide (HNX.out _ _ HK1.out hk)
      clear hi hk
      go_wp2_with fail
      refine (refs_any HI2.out 300 (by decide)).mono ?_
      rintro e w3 ⟨v3, rfl, ho3, hk3⟩
      obtain ⟨A3, c3, hv3, hc3⟩ := own_read ho3
      subst hv3
      have HV3 := hide (hc3.2 [] (by simp))
      have HI3 := hide (HI2.out.keep hk3)
      have HO3 := hide (HOK.out _ _ [] HO2.out hk3 (by simp))
      have HK3 := hide (HK2.out.trans hk3 (by simp))
      have HLN2 := hide (refsL_length HI2.out)
      clear ho3 hk3 hc3
      go_wp2_with fail
      refine (like_any A3 A1 (refsL M).length c3 c1 (refsL M) _ rfl HV3.out (by obtain ⟨A, c, e, _, h⟩ := own_read HO3.out; cases e; exact h [] (by simp)) (by have := HLN2.out; omega)).mono ?_
      rintro e w4 ⟨rfl, hk4⟩
      have HI4 := hide (HI3.out.keep hk4)
      have HO4 := hide (HOK.out _ _ [] HO3.out hk4 (by simp))
      have HK4 := hide (HK3.out.trans hk4 (by simp))
      clear hk4
      go_wp2_with fail
      refine (ref_yes HI4.out k hkM).mono ?_
      rintro e w' ⟨rfl, rfl⟩
      have HMK := hide (HMV.out.2 k hkn)
      obtain ⟨x, hx⟩ : ∃ x, M.b.l.getD k 0 = x := ⟨_, rfl⟩
      obtain ⟨y, hy⟩ : ∃ y, M.o.l.getD k 0 = y := ⟨_, rfl⟩
      rw [hx]
      rw [hx, hy] at HMK
      have HXE := hide hx
      have HYE := hide hy
      clear hx hy
      obtain ⟨old, HOLD, HREST⟩ : ∃ old : Int, Hid (old = if a3 = true then (if y = -1 then x else y) else x) ∧ Hid (old ≠ 0 → 1 ≤ old ∧ (x = old ∨ y = old)) := ⟨_, hide rfl, hide (by
        have := HMK.out
        split
        · split <;> omega
        · omega)⟩
      cases a3 with
      | false =>
        rw [show x = old from by have := HOLD.out; simpa using this.symm]
        clear HOLD
        by_cases h0 : old = 0
        · subst h0
          go_wp2_with fail
          refine (move_bad HI4.out k 0 2000 (by omega)).mono ?_
          rintro e w' ⟨rfl, rfl⟩
          go_wp2_with fail
          refine (refs_any HI4.out 300 (by decide)).mono ?_
          rintro e w5 ⟨v5, rfl, ho5, hk5⟩
          obtain ⟨A5, c5, hv5, hc5⟩ := own_read ho5
          subst hv5
          have HV5 := hide (hc5.2 [] (by simp))
          have HO5 := hide (HOK.out _ _ [] HO4.out hk5 (by simp))
          have HK5 := hide (HK4.out.trans hk5 (by simp))
          clear ho5 hk5 hc5
          go_wp2_with fail
          refine (like_any A5 A1 (refsL M).length c5 c1 (refsL M) _ rfl HV5.out (by obtain ⟨A, c, e, _, h⟩ := own_read HO5.out; cases e; exact h [] (by simp)) (by have := HLN2.out; omega)).mono ?_
          rintro e w6 ⟨rfl, hk6⟩
          have HK6 := hide (HK5.out.trans hk6 (by simp))
          clear hk6
          go_wp2_with fail
          refine (awake_any _).mono ?_
          rintro e w7 ⟨rfl, hk7⟩
          have HK7 := hide ((HK6.out.trans hk7 (by simp)).below (by simp))
          clear hk7
          go_wp2
          go_ret
          exact ⟨rfl, HK7.out⟩
        · obtain ⟨ho1, ho2⟩ := HREST.out h0
          have HMR := hide (moved_refs HMV.out (by omega) k hkn old ho1 (by rw [HXE.out, HYE.out]; exact ho2))
          have hd0 : (old == 0) = false := beq_eq_false_iff_ne.2 h0
          have HO1' := hide ho1
          clear h0 ho2
          go_wp2_with fail
          refine (move_in HI4.out k old 2000 ho1 (by decide) (by decide) hkM).mono ?_
          rintro e w5 ⟨rfl, hi, hk⟩
          rw [HMR.out.1]
          have HI5 := hide hi
          have HO5 := hide (HOK.out _ _ _ HO4.out hk HFAR.out)
          have HK5 := hide (HNX.out _ _ HK4.out hk)
          clear hi hk
          go_wp2_with fail
          refine (refs_any HI5.out 300 (by decide)).mono ?_
          rintro e w6 ⟨v6, rfl, ho6, hk6⟩
          rw [HMR.out.2] at ho6
          rw [List.length_map] at ho6
          have HSZ6 := hide (show ∀ i ∈ (Value.slice A1 (refsL M).length c1).ownBlock.toList, i < w5.heap.size from fun i hi => (own_blk HO5.out i hi).2.1)
          obtain ⟨A6, c6, hv6, hc6⟩ := own_read ho6
          subst hv6
          have HV6 := hide (hc6.2 (Value.slice A1 (refsL M).length c1).ownBlock.toList (fun i hi => .inl (HSZ6.out i hi)))
          have HO6 := hide (HOK.out _ _ [] HO5.out hk6 (by simp))
          have HK6 := hide (HK5.out.trans hk6 (by simp))
          obtain ⟨R, hR⟩ : ∃ R, refsL M = R := ⟨_, rfl⟩
          have hRl : R.length ≤ 128 := by rw [← hR]; exact HLN2.out
          rw [hR] at HV6 HO6
          simp only [hR]
          clear ho6 hk6 hc6 hR HO5 HO4 HO3 HO2 HO1 HOK HV3 HSZ6 HMR
          go_wp2
          go_loopw [19] (fun i wl => ∃ s : Nat, s ≤ R.length ∧ i = .int .i64 s ∧ Hid (wl.ownsRow wo.heap.size 55 2 (.slice A1 R.length c1) R.length (cellsR (partly (moved k old) R s))) ∧ Hid (Vals wl (Value.slice A1 R.length c1).ownBlock.toList A6 (cellsR (R.map (moved k old)))) ∧ Hid (Kept [] w wl)) (fun i _ => R.length - (intOf i).toNat)
          case atStart => exact ⟨0, Nat.zero_le _, rfl, hide (by rw [partly_zero]; exact HO6.out), HV6, HK6⟩
          case round =>
            obtain ⟨s, hs, rfl, HO, HV, HKL⟩ := hrel
            by_cases hsl : s < R.length
            · obtain ⟨x2, hx2⟩ : ∃ x2, R[s]? = some x2 := ⟨_, List.getElem?_eq_getElem hsl⟩
              obtain ⟨A, c, e, hcc, hrd⟩ := own_read HO.out
              cases e
              obtain ⟨ad1, rfl, _, p0, p1⟩ := refs_at (hrd [] (by simp)) (partly_at (f := moved k old) hx2)
              obtain ⟨ad2, rfl, hnb, z0, z1⟩ := refs_at HV.out (i := s) (x := moved k old x2) (by rw [List.getElem?_map, hx2]; rfl)
              have HX2 := hide hx2
              have HHR := hide hrd
              clear hx2 hrd
              by_cases hm : x2.1 = k ∧ x2.2 = old
              · have HF := hide (show moved k old x2 = (x2.1, 2000) from by unfold moved; rw [if_pos hm, hm.1])
                have hq1 : ((x2.1 : Int) == (k : Int)) = true := by rw [beq_iff_eq, hm.1]
                have hq2 : (x2.2 == old) = true := by rw [beq_iff_eq, hm.2]
                rw [HF.out] at z0 z1
                have HPU := hide (own_put HO.out (s * 2 + 1) (by rw [cellsR_len, partly_len]; omega) (.int .i64 2000))
                rw [cellsR_set _ _ _ _ (partly_at HX2.out), ← HF.out, ← partly_succ HX2.out] at HPU
                rw [← add_of_add, add_pos _ 1 (by decide)] at HPU
                have hfz := HPU.out.1
                have hbs : ad1.block ∈ (Value.slice (some ad1) R.length c1).ownBlock.toList := by simp [Value.ownBlock]
                have HVS := hide (HV.out.kept HPU.out.2.2.1 (fun i hi => by simp at hi; subst hi; exact hbs))
                have HKS := hide (HKL.out.trans HPU.out.2.2.1 (fun i hi => .inr (by simp at hi; subst hi; exact Nat.le_trans HB1.out HPU.out.2.2.2)))
                clear hm
                go_wp2
                generalize hws : wr.setCell ⟨(ad1.add (s * 2)).block, (ad1.add (s * 2)).off + 1, none⟩ (.int .i64 2000) = ws at HPU HVS HKS ⊢
                clear p0 p1 z0 z1 hws
                obtain ⟨A, c, e, _, hrd2⟩ := own_read HPU.out.2.1
                cases e
                obtain ⟨ad3, e3, _, p0, p1⟩ := refs_at (hrd2 [] (by simp)) (i := s) (x := moved k old x2) (by rw [partly_succ HX2.out, List.getElem?_set_self (by rw [partly_len]; exact hsl)])
                cases e3
                obtain ⟨ad4, e4, _, z0, z1⟩ := refs_at HVS.out (i := s) (x := moved k old x2) (by rw [List.getElem?_map, HX2.out]; rfl)
                cases e4
                rw [HF.out] at p0 p1 z0 z1
                have hne := neq_ref (x2.1 : Int) 2000
                clear hrd2
                go_quiet (fail)
                go_wp2
                go_roundw
                case rel => exact ⟨s + 1, by omega, by go_num, hide (own_keep HPU.out.2.1 ((Kept.refl [] ws).drewN _) (by simp)), hide (HVS.out.kept ((Kept.refl [] ws).drewN _) (by simp)), hide (HKS.out.trans ((Kept.refl [] ws).drewN _) (by simp))⟩
                case measure => simp [intOf]; omega
              · have HF := hide (show moved k old x2 = x2 from by unfold moved; rw [if_neg hm])
                rw [HF.out] at z0 z1
                have hne := neq_ref (x2.1 : Int) x2.2
                have HPS := hide (partly_same HX2.out HF.out)
                by_cases hm1 : x2.1 = k
                · have hq1 : ((x2.1 : Int) == (k : Int)) = true := by rw [beq_iff_eq, hm1]
                  have hq2 : (x2.2 == old) = false := by rw [beq_eq_false_iff_ne]; exact fun e => hm ⟨hm1, e⟩
                  clear hm hm1
                  go_wp2
                  go_quiet (fail)
                  go_wp2
                  go_roundw
                  case rel => exact ⟨s + 1, by omega, by go_num, hide (by rw [HPS.out]; exact own_keep HO.out ((Kept.refl [] wr).drewN _) (by simp)), hide (HV.out.kept ((Kept.refl [] wr).drewN _) (by simp)), hide (HKL.out.trans ((Kept.refl [] wr).drewN _) (by simp))⟩
                  case measure => simp [intOf]; omega
                · have hq1 : ((x2.1 : Int) == (k : Int)) = false := by rw [beq_eq_false_iff_ne]; omega
                  clear hm hm1
                  go_wp2
                  go_quiet (fail)
                  go_wp2
                  go_roundw
                  case rel => exact ⟨s + 1, by omega, by go_num, hide (by rw [HPS.out]; exact own_keep HO.out ((Kept.refl [] wr).drewN _) (by simp)), hide (HV.out.kept ((Kept.refl [] wr).drewN _) (by simp)), hide (HKL.out.trans ((Kept.refl [] wr).drewN _) (by simp))⟩
                  case measure => simp [intOf]; omega
            · obtain rfl : s = R.length := by omega
              go_wp2_with fail
              refine (awake_any _).mono ?_
              rintro e w7 ⟨rfl, hk7⟩
              have HK7 := hide ((HKL.out.trans hk7 (by simp)).below (by simp))
              clear hk7
              go_wp2
              go_ret
              exact ⟨rfl, HK7.out⟩
      | true =>
        go_wp2_with fail
        refine (look_yes HI4.out k hkM).mono ?_
        rintro e w' ⟨rfl, rfl⟩
        rw [HXE.out, HYE.out]
        rw [show (if y = -1 then x else y) = old from by have := HOLD.out; simpa using this.symm]
        clear HOLD
        by_cases h0 : old = 0
        · subst h0
          go_wp2_with fail
          refine (move_bad HI4.out k 0 2000 (by omega)).mono ?_
          rintro e w' ⟨rfl, rfl⟩
          go_wp2_with fail
          refine (refs_any HI4.out 300 (by decide)).mono ?_
          rintro e w5 ⟨v5, rfl, ho5, hk5⟩
          obtain ⟨A5, c5, hv5, hc5⟩ := own_read ho5
          subst hv5
          have HV5 := hide (hc5.2 [] (by simp))
          have HO5 := hide (HOK.out _ _ [] HO4.out hk5 (by simp))
          have HK5 := hide (HK4.out.trans hk5 (by simp))
          clear ho5 hk5 hc5
          go_wp2_with fail
          refine (like_any A5 A1 (refsL M).length c5 c1 (refsL M) _ rfl HV5.out (by obtain ⟨A, c, e, _, h⟩ := own_read HO5.out; cases e; exact h [] (by simp)) (by have := HLN2.out; omega)).mono ?_
          rintro e w6 ⟨rfl, hk6⟩
          have HK6 := hide (HK5.out.trans hk6 (by simp))
          clear hk6
          go_wp2_with fail
          refine (awake_any _).mono ?_
          rintro e w7 ⟨rfl, hk7⟩
          have HK7 := hide ((HK6.out.trans hk7 (by simp)).below (by simp))
          clear hk7
          go_wp2
          go_ret
          exact ⟨rfl, HK7.out⟩
        · obtain ⟨ho1, ho2⟩ := HREST.out h0
          have HMR := hide (moved_refs HMV.out (by omega) k hkn old ho1 (by rw [HXE.out, HYE.out]; exact ho2))
          have hd0 : (old == 0) = false := beq_eq_false_iff_ne.2 h0
          have HO1' := hide ho1
          clear h0 ho2
          go_wp2_with fail
          refine (move_in HI4.out k old 2000 ho1 (by decide) (by decide) hkM).mono ?_
          rintro e w5 ⟨rfl, hi, hk⟩
          rw [HMR.out.1]
          have HI5 := hide hi
          have HO5 := hide (HOK.out _ _ _ HO4.out hk HFAR.out)
          have HK5 := hide (HNX.out _ _ HK4.out hk)
          clear hi hk
          go_wp2_with fail
          refine (refs_any HI5.out 300 (by decide)).mono ?_
          rintro e w6 ⟨v6, rfl, ho6, hk6⟩
          rw [HMR.out.2] at ho6
          rw [List.length_map] at ho6
          have HSZ6 := hide (show ∀ i ∈ (Value.slice A1 (refsL M).length c1).ownBlock.toList, i < w5.heap.size from fun i hi => (own_blk HO5.out i hi).2.1)
          obtain ⟨A6, c6, hv6, hc6⟩ := own_read ho6
          subst hv6
          have HV6 := hide (hc6.2 (Value.slice A1 (refsL M).length c1).ownBlock.toList (fun i hi => .inl (HSZ6.out i hi)))
          have HO6 := hide (HOK.out _ _ [] HO5.out hk6 (by simp))
          have HK6 := hide (HK5.out.trans hk6 (by simp))
          obtain ⟨R, hR⟩ : ∃ R, refsL M = R := ⟨_, rfl⟩
          have hRl : R.length ≤ 128 := by rw [← hR]; exact HLN2.out
          rw [hR] at HV6 HO6
          simp only [hR]
          clear ho6 hk6 hc6 hR HO5 HO4 HO3 HO2 HO1 HOK HV3 HSZ6 HMR
          go_wp2
          go_loopw [19] (fun i wl => ∃ s : Nat, s ≤ R.length ∧ i = .int .i64 s ∧ Hid (wl.ownsRow wo.heap.size 55 2 (.slice A1 R.length c1) R.length (cellsR (partly (moved k old) R s))) ∧ Hid (Vals wl (Value.slice A1 R.length c1).ownBlock.toList A6 (cellsR (R.map (moved k old)))) ∧ Hid (Kept [] w wl)) (fun i _ => R.length - (intOf i).toNat)
          case atStart => exact ⟨0, Nat.zero_le _, rfl, hide (by rw [partly_zero]; exact HO6.out), HV6, HK6⟩
          case round =>
            obtain ⟨s, hs, rfl, HO, HV, HKL⟩ := hrel
            by_cases hsl : s < R.length
            · obtain ⟨x2, hx2⟩ : ∃ x2, R[s]? = some x2 := ⟨_, List.getElem?_eq_getElem hsl⟩
              obtain ⟨A, c, e, hcc, hrd⟩ := own_read HO.out
              cases e
              obtain ⟨ad1, rfl, _, p0, p1⟩ := refs_at (hrd [] (by simp)) (partly_at (f := moved k old) hx2)
              obtain ⟨ad2, rfl, hnb, z0, z1⟩ := refs_at HV.out (i := s) (x := moved k old x2) (by rw [List.getElem?_map, hx2]; rfl)
              have HX2 := hide hx2
              have HHR := hide hrd
              clear hx2 hrd
              by_cases hm : x2.1 = k ∧ x2.2 = old
              · have HF := hide (show moved k old x2 = (x2.1, 2000) from by unfold moved; rw [if_pos hm, hm.1])
                have hq1 : ((x2.1 : Int) == (k : Int)) = true := by rw [beq_iff_eq, hm.1]
                have hq2 : (x2.2 == old) = true := by rw [beq_iff_eq, hm.2]
                rw [HF.out] at z0 z1
                have HPU := hide (own_put HO.out (s * 2 + 1) (by rw [cellsR_len, partly_len]; omega) (.int .i64 2000))
                rw [cellsR_set _ _ _ _ (partly_at HX2.out), ← HF.out, ← partly_succ HX2.out] at HPU
                rw [← add_of_add, add_pos _ 1 (by decide)] at HPU
                have hfz := HPU.out.1
                have hbs : ad1.block ∈ (Value.slice (some ad1) R.length c1).ownBlock.toList := by simp [Value.ownBlock]
                have HVS := hide (HV.out.kept HPU.out.2.2.1 (fun i hi => by simp at hi; subst hi; exact hbs))
                have HKS := hide (HKL.out.trans HPU.out.2.2.1 (fun i hi => .inr (by simp at hi; subst hi; exact Nat.le_trans HB1.out HPU.out.2.2.2)))
                clear hm
                go_wp2
                generalize hws : wr.setCell ⟨(ad1.add (s * 2)).block, (ad1.add (s * 2)).off + 1, none⟩ (.int .i64 2000) = ws at HPU HVS HKS ⊢
                clear p0 p1 z0 z1 hws
                obtain ⟨A, c, e, _, hrd2⟩ := own_read HPU.out.2.1
                cases e
                obtain ⟨ad3, e3, _, p0, p1⟩ := refs_at (hrd2 [] (by simp)) (i := s) (x := moved k old x2) (by rw [partly_succ HX2.out, List.getElem?_set_self (by rw [partly_len]; exact hsl)])
                cases e3
                obtain ⟨ad4, e4, _, z0, z1⟩ := refs_at HVS.out (i := s) (x := moved k old x2) (by rw [List.getElem?_map, HX2.out]; rfl)
                cases e4
                rw [HF.out] at p0 p1 z0 z1
                have hne := neq_ref (x2.1 : Int) 2000
                clear hrd2
                go_quiet (fail)
                go_wp2
                go_roundw
                case rel => exact ⟨s + 1, by omega, by go_num, hide (own_keep HPU.out.2.1 ((Kept.refl [] ws).drewN _) (by simp)), hide (HVS.out.kept ((Kept.refl [] ws).drewN _) (by simp)), hide (HKS.out.trans ((Kept.refl [] ws).drewN _) (by simp))⟩
                case measure => simp [intOf]; omega
              · have HF := hide (show moved k old x2 = x2 from by unfold moved; rw [if_neg hm])
                rw [HF.out] at z0 z1
                have hne := neq_ref (x2.1 : Int) x2.2
                have HPS := hide (partly_same HX2.out HF.out)
                by_cases hm1 : x2.1 = k
                · have hq1 : ((x2.1 : Int) == (k : Int)) = true := by rw [beq_iff_eq, hm1]
                  have hq2 : (x2.2 == old) = false := by rw [beq_eq_false_iff_ne]; exact fun e => hm ⟨hm1, e⟩
                  clear hm hm1
                  go_wp2
                  go_quiet (fail)
                  go_wp2
                  go_roundw
                  case rel => exact ⟨s + 1, by omega, by go_num, hide (by rw [HPS.out]; exact own_keep HO.out ((Kept.refl [] wr).drewN _) (by simp)), hide (HV.out.kept ((Kept.refl [] wr).drewN _) (by simp)), hide (HKL.out.trans ((Kept.refl [] wr).drewN _) (by simp))⟩
                  case measure => simp [intOf]; omega
                · have hq1 : ((x2.1 : Int) == (k : Int)) = false := by rw [beq_eq_false_iff_ne]; omega
                  clear hm hm1
                  go_wp2
                  go_quiet (fail)
                  go_wp2
                  go_roundw
                  case rel => exact ⟨s + 1, by omega, by go_num, hide (by rw [HPS.out]; exact own_keep HO.out ((Kept.refl [] wr).drewN _) (by simp)), hide (HV.out.kept ((Kept.refl [] wr).drewN _) (by simp)), hide (HKL.out.trans ((Kept.refl [] wr).drewN _) (by simp))⟩
                  case measure => simp [intOf]; omega
            · obtain rfl : s = R.length := by omega
              go_wp2_with fail
              refine (awake_any _).mono ?_
              rintro e w7 ⟨rfl, hk7⟩
              have HK7 := hide ((HKL.out.trans hk7 (by simp)).below (by simp))
              clear hk7
              go_wp2
              go_ret
              exact ⟨rfl, HK7.out⟩

/-! ### the row's step, as the guide's skeleton has it -/
set_option maxRecDepth 100000 in
theorem lifted (os : Os) (started : os.Started) (H : Type) (enc : TypeId × Value → H) :
    ReturnsInHanded {} Try.checked os 6 .any (Rows.imageMovesSpec.pre6 enc Try.prog Try.f6 Rows.imageMovesRow.domain false) (Rows.imageMovesSpec.post enc Try.prog Try.f6 false true false false) := by
  refine returnsInHanded_of_change (C := Try.checked) own started (by kernel_rfl) Try.func6
    (ChangeSpec.witness6 (enc := enc) (C := Try.checked) false ⟨#[], #[.int .i64 0, .slice none 0 0, .int .i64 0, .bool false, .int .i64 0], []⟩ 8 (by kernel_rfl) (by kernel_rfl) (by kernel_rfl) (by kernel_rfl)) ?_
  intro W base args ds gs before hval0 hW hcnd _
  have hval : ∀ (j : Nat) t v, Try.f6.params[j]? = some t → args[j]? = some v → Value.okWide Try.prog W .any base t v := hval0
  have hW' := hW
  obtain ⟨p, q, hA0, hV, rfl, hfz, hnd⟩ := hW
  have hA : DataW.TrodAll enc Try.prog W 0 (fun _ => true) true Try.f6.params.toList args.toList ds p := hA0
  rw [Try.params6] at hA hval
  obtain ⟨v0, vs0, d0, ds0, p0, q0, hargs, rfl, rfl, h0, r0⟩ := trodAll_cons hA
  obtain ⟨v1, vs1, d1, ds1, p1, q1, rfl, rfl, rfl, h1, r1⟩ := trodAll_cons r0
  obtain ⟨v2, vs2, d2, ds2, p2, q2, rfl, rfl, rfl, h2, r2⟩ := trodAll_cons r1
  obtain ⟨v3, vs3, d3, ds3, p3, q3, rfl, rfl, rfl, h3, r3⟩ := trodAll_cons r2
  obtain ⟨v4, vs4, d4, ds4, p4, q4, rfl, rfl, rfl, h4, r4⟩ := trodAll_cons r3
  obtain ⟨rfl, rfl, rfl⟩ := trodAll_nil r4
  obtain rfl : args = #[v0, v1, v2, v3, v4] := by cases args; simp_all
  obtain ⟨rfl, rfl⟩ := trodVars_none hV
  obtain ⟨a0, rfl, rfl, rfl, w0⟩ := open_int Try.underlying3 (hval 0 3 v0 rfl rfl) h0
  obtain ⟨a1, len1, cap1, rfl⟩ := okWide_slice Try.underlying45 (hval 1 45 v1 rfl rfl)
  have k1 := h1
  have lt1 : ∀ x ∈ p1, x.block < W.heap.size := by obtain ⟨m, hm⟩ := k1; exact DataW.trod_lt m _ _ _ hm
  obtain ⟨l1, e1, w1, b1⟩ : ∃ l : List (List Int), l.length = len1 ∧ Slab W 3 a1 l ∧ len1 ≤ cap1 ∧ cap1 ≤ maxLen := by
    obtain ⟨fuel, hf⟩ := h1
    exact slab_of Try.underlying45 (by kernel_rfl) (fun _ cs x hl h => struct_cells Try.underlying3 Try.underlying48 (by kernel_rfl) (by simp) (by kernel_rfl) _ cs x hl h) hf
  obtain ⟨a2, rfl, rfl, rfl, w2⟩ := open_int Try.underlying3 (hval 2 3 v2 rfl rfl) h2
  obtain ⟨a3, rfl, rfl, rfl⟩ := open_bool Try.underlying4 (hval 3 4 v3 rfl rfl) h3
  obtain ⟨a4, rfl, rfl, rfl, w4⟩ := open_int Try.underlying3 (hval 4 3 v4 rfl rfl) h4
  clear hA0 hval0
  refine (walk a0 a1 len1 cap1 l1 a2 a3 a4 W w0 w1 e1 b1 w2 w4).mono fun e W' ⟨he, bel⟩ => ?_
  subst he
  exact ⟨_, rfl, _, _, _, [], _, [], hW', trodAll_mk1 (shut_bool Try.underlying4 _), (trodAll_cons_mk (shut_int Try.underlying3 w0) (trodAll_cons_mk (Below.trod laidOut (by kernel_rfl) (of_decide_eq_true (by kernel_rfl)) k1 bel lt1) (trodAll_cons_mk (shut_int Try.underlying3 w2) (trodAll_cons_mk (shut_bool Try.underlying4 a3) (trodAll_cons_mk (shut_int Try.underlying3 w4) trodAll_mk0))))), rfl, bel.frame _, fun h => by cases h⟩

theorem over : Rows.imageMovesRow.holds Try.pinned (OpenSpec.ofChange Rows.imageMovesSpec) :=
  OpenClaim.holds_of_wide 6 Try.f6 rfl rfl rfl rfl rfl rfl rfl ⟨rfl, rfl, rfl, rfl, rfl⟩ rfl rfl rfl rfl rfl (by kernel_rfl) Try.func6 (by kernel_rfl)
    (of_decide_eq_true (by kernel_rfl)) (by unfold Func.isWrapper; first | (rw [if_pos (by decide +kernel)]; kernel_rfl) | (rw [if_neg (by decide +kernel)]; exact ⟨rfl, rfl⟩))
    (fun os started H enc _ => lifted os started H enc)

/-- The statement. -/
theorem proved : Rows.ImageMovesSaid := over
#print axioms proved
end Go.Proofs.Ytlgdjbilffjknaa.imageMoves

