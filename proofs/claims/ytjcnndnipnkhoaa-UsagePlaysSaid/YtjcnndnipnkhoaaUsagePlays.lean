/-
  The given statement UsagePlaysSaid is proved: whatever the arguments are, the law returns true and leaves its input as it was. No conditions.
-/
import Derived.Test.YtjcnndnipnkhoaaShapes
import Derived.Test.YtjcnndnipnkhoaaSlabWf
import Derived.Test.YtjcnndnipnkhoaaConfig
import Derived.Test.YtjcnndnipnkhoaaUsagePlaysM
import Derived.WalkKit
import Derived.ProofKit
import Derived.OpenShut
import Derived.ShutString
import Derived.ChangeOld
import Derived.Below
namespace Go.Proofs.Ytjcnndnipnkhoaa.usagePlays
open Go.ChangeShapes Go.WideShapes Go.ChangeAt Go.RowKit
open Go.ChangeMaps (open_string shut_string)
open Go.Proofs.Ytjcnndnipnkhoaa.mem Go.Proofs.Ytjcnndnipnkhoaa.base Go.Proofs.Ytjcnndnipnkhoaa.mem Go.Proofs.Ytjcnndnipnkhoaa.base Go.Proofs.Ytjcnndnipnkhoaa.us Go.Proofs.Ytjcnndnipnkhoaa.geom
set_option linter.unusedVariables false

theorem own : ownKnob Try.prog.godebug = none := by kernel_rfl
theorem laidOut : laidOutB Try.prog = true := by kernel_rfl

set_option maxRecDepth 100000 in
set_option maxHeartbeats 4000000 in
theorem walk (a0_0 a0_1 a0_2 : Int) (a1 : Option Addr) (len1 cap1 : Nat) (l1 : List (List Int)) (a2 : Option Addr) (len2 cap2 : Nat) (l2 : List (List Int)) (w : World) (w0_0 : (Lit.int .i64 a0_0).wf = true) (w0_1 : (Lit.int .i64 a0_1).wf = true) (w0_2 : (Lit.int .i64 a0_2).wf = true) (w1 : Slab w 2 a1 l1 ∧ ∀ (i : Nat) (xs : List Int), l1[i]? = some xs → ∀ (j : Nat) (y : Int), xs[j]? = some y → (Lit.int .i64 y).wf = true) (e1 : l1.length = len1) (b1 : len1 ≤ cap1 ∧ cap1 ≤ maxLen) (w2 : Slab w 3 a2 l2 ∧ ∀ (i : Nat) (xs : List Int), l2[i]? = some xs → ∀ (j : Nat) (y : Int), xs[j]? = some y → (Lit.int .i64 y).wf = true) (e2 : l2.length = len2) (b2 : len2 ≤ cap2 ∧ cap2 ≤ maxLen) :
    Calls Try.prog 3 #[.agg #[.int .i64 a0_0, .int .i64 a0_1, .int .i64 a0_2], .slice a1 len1 cap1, .slice a2 len2 cap2] w fun e w' => e = .returned (.bool true) ∧ Below w.heap.size w w' := by
  have HU := hide (slab_uses w1.1)
  have HUE : Hid ((ofSlab l1).length = len1) := hide (by rw [ofSlab_len]; exact e1)
  have HUP := hide (ofSlab_plain l1)
  obtain ⟨us, hus⟩ : ∃ us, ofSlab l1 = us := ⟨_, rfl⟩
  rw [hus] at HU HUE HUP
  have HA := hide w2
  have HAE := hide e2
  clear w1 e1 b1 w2 e2 b2 hus
  have HK0 : Hid (Kept [] w (w.alloc (.cells #[.int .i64 a0_0, .int .i64 a0_1, .int .i64 a0_2] 22))) := hide ((Kept.refl [] w).alloc _)
  by_cases hout : 60 < len1 ∨ 60 < len2
  · have hg1 : (60 : Int) < len1 ∨ (¬ ((60 : Int) < len1) ∧ (60 : Int) < len2) := by omega
    clear hout
    rcases hg1 with hg1 | ⟨hg1, hg2⟩
    · have hd1 : decide (60 < len1) = true := decide_eq_true (by omega)
      go_enter Try.func3, Try.ntmps3
      go_wp2_with fail
      refine (awake_any _).mono ?_
      rintro e wd ⟨rfl, hk⟩
      have HKF := hide (HK0.out.trans hk (by simp))
      clear hk
      go_wp2
      go_ret
      exact ⟨rfl, HKF.out.below (by simp)⟩
    · have hd1 : decide (60 < len1) = false := decide_eq_false (by omega)
      have hd2 : decide (60 < len2) = true := decide_eq_true (by omega)
      go_enter Try.func3, Try.ntmps3
      go_wp2_with fail
      refine (awake_any _).mono ?_
      rintro e wd ⟨rfl, hk⟩
      have HKF := hide (HK0.out.trans hk (by simp))
      clear hk
      go_wp2
      go_ret
      exact ⟨rfl, HKF.out.below (by simp)⟩
  have hd1 : decide (60 < len1) = false := decide_eq_false (by omega)
  have hd2 : decide (60 < len2) = false := decide_eq_false (by omega)
  have hg1 : ¬ ((60 : Int) < len1) := by omega
  have hg2 : ¬ ((60 : Int) < len2) := by omega
  have hl1 : Hid (len1 ≤ 60) := hide (by omega)
  have hl2 : len2 ≤ 60 := by omega
  clear hout
  go_enter Try.func3, Try.ntmps3
  go_wp2_with fail
  refine (base.config_any a0_0 a0_1 a0_2 _).mono ?_
  rintro e wa ⟨b, s, l, rfl, hok, hk⟩
  have HOK : Hid (Ok b s l) := hide hok
  have HK1 := hide ((HK0.out.trans hk (by simp)).alloc (.cells #[.int .i64 b, .int .i64 s, .int .i64 l] 27))
  have HBC : Hid (Blk (wa.alloc (.cells #[.int .i64 b, .int .i64 s, .int .i64 l] 27)) wa.heap.size 27 #[.int .i64 b, .int .i64 s, .int .i64 l]) := hide (Blk.new _ _ _)
  obtain ⟨C, hC⟩ : ∃ C, wa.heap.size = C := ⟨_, rfl⟩
  obtain ⟨wb, hwb⟩ : ∃ wb, wa.alloc (.cells #[.int .i64 b, .int .i64 s, .int .i64 l] 27) = wb := ⟨_, rfl⟩
  rw [hwb] at HK1 HBC
  rw [hC] at HBC
  have c0 : wb.cell? ⟨C, 0, none⟩ = some (.int .i64 b) := HBC.out.cell 0
  have c1 : wb.cell? ⟨C, 1, none⟩ = some (.int .i64 s) := HBC.out.cell 1
  have c2 : wb.cell? ⟨C, 2, none⟩ = some (.int .i64 l) := HBC.out.cell 2
  clear hk hok HK0
  go_wp2_with fail
  refine (new_yes b s l _ HOK.out).mono ?_
  rintro e wq ⟨p, r, q, rfl, hg, hp, hk⟩
  have HG := hide hg
  have HRF := hide hg.rf
  have HK2 := hide (HK1.out.trans hk (by simp))
  have HBC2 := hide (hk.blk HBC.out (by simp))
  obtain ⟨m, hm⟩ : ∃ m : Nat, (m : Int) = s := ⟨s.toNat, by have := HOK.out.2.1; omega⟩
  subst hm
  have hs8 := HOK.out.2.1
  have HV2 := hide (HU.out.kept HK2.out (by simp))
  have hnew := new_cases p b m l r q a1 len1 cap1 us _ HG.out HV2.out HUE.out HUP.out
  have HNW := hide hnew
  clear hg hp hk c0 c1 c2 hwb hC HK1 HBC hnew
  go_wp2_with fail
  refine HNW.out.mono ?_
  rintro e w3 ⟨P, rfl, hP, hk⟩
  have HP := hide hP
  have HK3 := hide (HK2.out.trans hk (by simp))
  have hb3 := hk.blk HBC2.out (by simp)
  have c0 : w3.cell? ⟨C, 0, none⟩ = some (.int .i64 b) := hb3.cell 0
  have c1 : w3.cell? ⟨C, 1, none⟩ = some (.int .i64 m) := hb3.cell 1
  have c2 : w3.cell? ⟨C, 2, none⟩ = some (.int .i64 l) := hb3.cell 2
  have HV3 := hide (HV2.out.kept hk (by simp))
  clear hP hk hb3 HNW
  go_wp2_with fail
  refine (rnew_any b m l r q a1 len1 cap1 us _ HRF.out HV3.out HUE.out HUP.out (by have := hl1.out; omega)).mono ?_
  intro e w4 hpost
  rcases HP.out with ⟨p1, V, rs, rfl, hp1, hV1, ht1, hcase⟩ | ⟨rfl, hpos, hbad⟩
  · rcases hpost with ⟨p2, U, L, rs2, rfl, hp2, hU2, hL2, hm2, hk, hcase2⟩ | ⟨h0, hb2, _⟩
    · have hrs : rs2 = rs := by
        rcases hcase with ⟨h1, h2⟩ | ⟨h1, _, _, h2⟩ <;> rcases hcase2 with ⟨h3, h4⟩ | ⟨h3, _, _, h4⟩
        · rw [h2, h4]
        · omega
        · omega
        · rw [h2, h4]
      subst hrs
      have hB0 : Both w w4 p1 V p2 U L b m l r q rs2 := by
        have h1 := ht1.pl
        have h2 := ht1.Vl
        have h3 := HK2.out.size
        have h4 := HK3.out.size
        exact ⟨ht1.keep hk, hm2, by omega, by omega, by omega, by omega, by omega, by omega, by omega, by omega⟩
      have HB := hide hB0
      have HK4 := hide (HK3.out.trans hk (by simp))
      clear ht1 hm2 hk hcase hcase2 hp1 hV1 hp2 hU2 hL2 hB0 HP HG HRF HBC2 HV2 HV3 HK2 HK3 c0 c1 c2
      go_wp2_with fail
      refine (same_any HB.out.t HB.out.m).mono ?_
      rintro e w5 ⟨rfl, hk⟩
      have HB5 := hide (HB.out.keep hk)
      have HK5 := hide (HK4.out.trans hk (by simp))
      clear hk HB HK4
      go_wp2
      clear hd1 hd2 hg1 hg2
      go_loopw [12, 13, 14, 15, 16] (fun i a s ok k wr => ∃ (j : Nat) (rs : List Rw), j ≤ len2 ∧ i = .int .i64 j ∧ Hid (Both w wr p1 V p2 U L b m l r q rs) ∧ Hid (Kept [] w wr)) (fun i a s ok k _ => len2 - (intOf i).toNat)
      case atStart => exact ⟨0, rs2, by omega, rfl, HB5, HK5⟩
      case round =>
        clear HB5 HK5
        obtain ⟨j, rs, hj, rfl, HB, HK⟩ := hrel
        by_cases hlt : j < len2
        · obtain ⟨ad, kind, at_, by_, rfl, hact, k0, k1, k2⟩ := slab_act (Slab.kept HA.out.1 HK.out) (i := j) (by rw [HAE.out]; exact hlt)
          have hat := wf_i64 (HA.out.2 j _ hact 1 at_ rfl)
          have hby := wf_i64 (HA.out.2 j _ hact 2 by_ rfl)
          have HAT := hide hat
          have HBY := hide hby.1
          have hj0 : (0 : Int) ≤ j := by omega
          have hj1 : (j : Int) < len2 := by omega
          have hka : Kept [] wr (wr.alloc (.cells #[.int .i64 kind, .int .i64 at_, .int .i64 by_] 39)) := (Kept.refl [] wr).alloc _
          have hba : Blk (wr.alloc (.cells #[.int .i64 kind, .int .i64 at_, .int .i64 by_] 39)) wr.heap.size 39 #[.int .i64 kind, .int .i64 at_, .int .i64 by_] := Blk.new _ _ _
          obtain ⟨G, hG⟩ : ∃ G, wr.heap.size = G := ⟨_, rfl⟩
          obtain ⟨w6, hw6⟩ : ∃ w6, wr.alloc (.cells #[.int .i64 kind, .int .i64 at_, .int .i64 by_] 39) = w6 := ⟨_, rfl⟩
          rw [hw6] at hka hba
          rw [hG] at hba
          have HB6 := hide (HB.out.keep hka)
          have HK6 := hide (HK.out.trans hka (by simp))
          have HBA := hide hba
          have hlow : Hid (V < G ∧ U < G ∧ L < G) := hide (by have h1 := HB.out.t.Vl; have h2 := HB.out.m.Ul; have h3 := HB.out.m.Ll; omega)
          have a0 : w6.cell? ⟨G, 0, none⟩ = some (.int .i64 kind) := hba.cell 0
          have a1 : w6.cell? ⟨G, 1, none⟩ = some (.int .i64 at_) := hba.cell 1
          have a2 : w6.cell? ⟨G, 2, none⟩ = some (.int .i64 by_) := hba.cell 2
          clear hact hat hby hka hba HB HK
          go_upto_block 2 with fail
          try rw [hw6]
          try rw [hG]
          clear hw6 hG
          go_cut [14, 15, 16] from 72 to 169 (fun s ok k wx => ∃ rs' : List Rw, Hid (Both w wx p1 V p2 U L b m l r q rs') ∧ Hid (Kept [] w wx))
          case first =>
            have HVL : Hid (w.heap.size ≤ V ∧ w.heap.size ≤ U ∧ w.heap.size ≤ L) := hide ⟨HB6.out.nV, HB6.out.nU, HB6.out.nL⟩
            by_cases hk1 : kind = 1
            · as_aux_lemma =>
              subst hk1
              obtain ⟨bb, hbb⟩ : ∃ bb, decide (addIn m l r q at_) = bb := ⟨_, rfl⟩
              have HBB := hide hbb
              clear hbb
              go_wp2_with fail
              go_region_held3 (fun W => W.cell? ⟨G, 1, none⟩ = some (.int .i64 at_) ∧ W.cell? ⟨G, 2, none⟩ = some (.int .i64 by_))
                (first | exact ⟨a1, a2⟩ | exact ⟨d1, d2⟩ | exact ⟨g1, g2⟩)
                (first
                  | (go_at_call 13; refine (add_any (HB6.out.keep (Kept.refl [] w6).drew).t at_ by_ HBY.out).mono ?_; rintro e w7 ⟨rfl, ht7, hk7⟩; have d1 := hk7.cell (p := ⟨G, 1, none⟩) (show World.cell? _ ⟨G, 1, none⟩ = _ from a1) (by have := hlow.out; simp; omega); have d2 := hk7.cell (p := ⟨G, 2, none⟩) (show World.cell? _ ⟨G, 2, none⟩ = _ from a2) (by have := hlow.out; simp; omega); have HT7 := hide ht7; have HK7 := hide hk7; clear ht7 hk7; rw [HBB.out])
                  | (go_at_call 14; refine (radd_any ((HB6.out.keep (Kept.refl [] w6).drew).ref HK7.out) at_ by_ HAT.out).mono ?_; rintro e w8 ⟨rfl, hm8, hk8⟩; have g1 := hk8.cell (p := ⟨G, 1, none⟩) d1 (by have := hlow.out; simp; omega); have g2 := hk8.cell (p := ⟨G, 2, none⟩) d2 (by have := hlow.out; simp; omega); have HM8 := hide hm8; have HK8 := hide hk8; clear hm8 hk8; rw [HBB.out]))
              have HB8 := hide (Both.turn (HB6.out.keep (Kept.refl [] w6).drew) HT7.out HK8.out (by simp) HM8.out)
              have HK9 : Hid (Kept [] w w8) := hide ((HK6.out.drew.trans HK7.out (by have := HVL.out; simp; omega)).trans HK8.out (by have := HVL.out; simp; omega))
              clear d1 d2 g1 g2 HT7 HM8
              go_wp2_with fail
              go_meet
              case rel => exact ⟨_, HB8, HK9⟩
            have hb1 : (kind == 1) = false := beq_eq_false_iff_ne.2 hk1
            by_cases hk2 : kind = 2
            · as_aux_lemma =>
              subst hk2
              go_wp2_with fail
              refine (touch_any HB6.out.t at_ by_).mono ?_
              rintro e w7 ⟨rfl, ht7, hk7⟩
              have d1 := hk7.cell (p := ⟨G, 1, none⟩) a1 (by have := hlow.out; simp; omega)
              have d2 := hk7.cell (p := ⟨G, 2, none⟩) a2 (by have := hlow.out; simp; omega)
              have HT7 := hide ht7
              have HK7 := hide hk7
              clear ht7 hk7
              go_wp2_with fail
              refine (rtouch_any (HB6.out.ref HK7.out) at_ by_).mono ?_
              rintro e w8 ⟨rfl, hm8, hk8⟩
              have HB8 := hide (Both.turn HB6.out HT7.out hk8 (by simp) hm8)
              have HK9 : Hid (Kept [] w w8) := hide ((HK6.out.trans HK7.out (by have := HVL.out; simp; omega)).trans hk8 (by have := HVL.out; simp; omega))
              clear hm8 hk8 d1 d2 HT7
              go_wp2_with fail
              go_meet
              case rel => exact ⟨_, HB8, HK9⟩
            have hb2 : (kind == 2) = false := beq_eq_false_iff_ne.2 hk2
            by_cases hk3 : kind = 3
            · as_aux_lemma =>
              subst hk3
              go_wp2_with fail
              refine (take_ex HB6.out.t _).mono ?_
              rintro e w7 ⟨z, hz, rfl, ht7, hk7⟩
              have HZE := hide hz
              have hz1 : -1 ≤ z := by rw [hz]; exact next_ge rs _
              clear hz
              have d2 := hk7.cell (p := ⟨G, 2, none⟩) a2 (by have := hlow.out; simp; omega)
              have HT7 := hide ht7
              have HK7 := hide hk7
              clear ht7 hk7
              go_wp2_with fail
              refine (rnext_any (HB6.out.ref HK7.out) _).mono ?_
              rintro e w8 ⟨rfl, hw8⟩
              subst hw8
              rw [← HZE.out]
              clear HZE
              have HZ1 := hide hz1
              go_wp2_with fail
              refine (rgrab_any (HB6.out.ref HK7.out) z).mono ?_
              rintro e w8 ⟨rfl, hm8, hk8⟩
              have HB8 := hide (Both.turn HB6.out HT7.out hk8 (by simp) hm8)
              have HK9 : Hid (Kept [] w w8) := hide ((HK6.out.trans HK7.out (by have := HVL.out; simp; omega)).trans hk8 (by have := HVL.out; simp; omega))
              clear hm8 hk8 d2 HT7
              by_cases hz0 : 0 ≤ z
              · have e1 : tookOf z = z := if_pos hz0
                have e2 : decide (0 ≤ z) = true := decide_eq_true hz0
                rw [e1, e2]
                go_wp2_with fail
                go_meet
                case rel => exact ⟨_, HB8, HK9⟩
              · have e1 : tookOf z = 0 := if_neg hz0
                have e2 : decide (0 ≤ z) = false := decide_eq_false hz0
                rw [e1, e2]
                go_wp2_with fail
                go_meet
                case rel => exact ⟨_, HB8, HK9⟩
            have hb3 : (kind == 3) = false := beq_eq_false_iff_ne.2 hk3
            by_cases hk4 : kind = 4
            · as_aux_lemma =>
              subst hk4
              obtain ⟨bb, hbb⟩ : ∃ bb, grabs rs at_ = bb := ⟨_, rfl⟩
              have HBB := hide hbb
              clear hbb
              go_wp2_with fail
              go_region_held3 (fun W => W.cell? ⟨G, 1, none⟩ = some (.int .i64 at_))
                (first | exact a1 | exact d1 | exact g1)
                (first
                  | (go_at_call 20; refine (grab_any (HB6.out.keep (Kept.refl [] w6).drew).t at_).mono ?_; rintro e w7 ⟨rfl, ht7, hk7⟩; have d1 := hk7.cell (p := ⟨G, 1, none⟩) (show World.cell? _ ⟨G, 1, none⟩ = _ from a1) (by have := hlow.out; simp; omega); have HT7 := hide ht7; have HK7 := hide hk7; clear ht7 hk7; rw [HBB.out])
                  | (go_at_call 19; refine (rgrab_any ((HB6.out.keep (Kept.refl [] w6).drew).ref HK7.out) at_).mono ?_; rintro e w8 ⟨rfl, hm8, hk8⟩; have g1 := hk8.cell (p := ⟨G, 1, none⟩) d1 (by have := hlow.out; simp; omega); have HM8 := hide hm8; have HK8 := hide hk8; clear hm8 hk8; rw [HBB.out]))
              have HB8 := hide (Both.turn (HB6.out.keep (Kept.refl [] w6).drew) HT7.out HK8.out (by simp) HM8.out)
              have HK9 : Hid (Kept [] w w8) := hide ((HK6.out.drew.trans HK7.out (by have := HVL.out; simp; omega)).trans HK8.out (by have := HVL.out; simp; omega))
              clear d1 g1 HT7 HM8
              go_wp2_with fail
              go_meet
              case rel => exact ⟨_, HB8, HK9⟩
            have hb4 : (kind == 4) = false := beq_eq_false_iff_ne.2 hk4
            by_cases hk5 : kind = 5
            · as_aux_lemma =>
              subst hk5
              go_wp2_with fail
              refine (shut_any HB6.out.t at_).mono ?_
              rintro e w7 ⟨rfl, ht7, hk7⟩
              have d1 := hk7.cell (p := ⟨G, 1, none⟩) a1 (by have := hlow.out; simp; omega)
              have HT7 := hide ht7
              have HK7 := hide hk7
              clear ht7 hk7
              go_wp2_with fail
              refine (rshut_any (HB6.out.ref HK7.out) at_).mono ?_
              rintro e w8 ⟨rfl, hm8, hk8⟩
              have HB8 := hide (Both.turn HB6.out HT7.out hk8 (by simp) hm8)
              have HK9 : Hid (Kept [] w w8) := hide ((HK6.out.trans HK7.out (by have := HVL.out; simp; omega)).trans hk8 (by have := HVL.out; simp; omega))
              clear hm8 hk8 d1 HT7
              go_wp2_with fail
              go_meet
              case rel => exact ⟨_, HB8, HK9⟩
            have hb5 : (kind == 5) = false := beq_eq_false_iff_ne.2 hk5
            by_cases hk6 : kind = 6
            · as_aux_lemma =>
              subst hk6
              go_wp2_with fail
              refine (release_any p1 V b m l r q rs _ HB6.out.t).mono ?_
              rintro e w7 ⟨A7, c7, rfl, hv7, ht7, hk7⟩
              have HT7 := hide ht7
              have HK7 := hide hk7
              have HV7 := hide (hv7 [U] (by have h1 := HB6.out.m.Ul; simp; exact h1))
              clear ht7 hk7 hv7
              go_wp2_with fail
              refine (rrelease_any (HB6.out.ref HK7.out)).mono ?_
              rintro e w8 ⟨A8, c8, rfl, hv8, hm8, hk8⟩
              have HB8 := hide (Both.turn HB6.out HT7.out hk8 (by simp) hm8)
              have HK9 : Hid (Kept [] w w8) := hide ((HK6.out.trans HK7.out (by have := HVL.out; simp; omega)).trans hk8 (by have := HVL.out; simp; omega))
              have HV8 := hide (hv8 [] (by simp))
              have HV78 := hide ((HV7.out.kept hk8 (by simp)).mono (S' := []) (by simp))
              have hdl := dead_length rs rs.length
              have hbd := HB6.out.t.bounds
              obtain ⟨d, hd⟩ : ∃ d, (deadIds rs rs.length).length = d := ⟨_, rfl⟩
              have HDD := hide hd
              rw [hd] at hdl
              rw [hd]
              have hd32 : d ≤ 32 := by omega
              clear hm8 hk8 hv8 HT7 HV7 hd hdl hbd
              go_wp2_with fail
              refine (pg.ints_any _ _ d d _ _ (deadIds rs rs.length) (deadIds rs rs.length) _ HDD.out HDD.out HV78.out HV8.out (by omega)).mono ?_
              rintro e w9 ⟨rfl, hk⟩
              rw [decide_eq_true (rfl : deadIds rs rs.length = deadIds rs rs.length)]
              have HB9 := hide (HB8.out.keep hk)
              have HKA := hide (HK9.out.trans hk (by simp))
              clear hk
              go_wp2_with fail
              go_meet
              case rel => exact ⟨_, HB9, HKA⟩
            have hb6 : (kind == 6) = false := beq_eq_false_iff_ne.2 hk6
            go_wp2_with fail
            go_meet
            case rel => exact ⟨_, HB6, HK6⟩
          case rest => as_aux_lemma =>
            obtain ⟨rs', HB7, HK7⟩ := hcut
            clear HB6 HK6 HBA a0 a1 a2 HAT HBY hlow
            go_wp2_with fail
            refine (same_any HB7.out.t HB7.out.m).mono ?_
            rintro e w9 ⟨rfl, hk⟩
            have HB9 := hide (HB7.out.keep hk)
            have HK9 := hide (HK7.out.trans hk (by simp))
            clear hk HB7 HK7
            go_wp2
            go_roundw
            case rel => exact ⟨j + 1, rs', by omega, by go_num, HB9, HK9⟩
            case measure => simp [intOf]; omega
        · obtain rfl : j = len2 := by omega
          go_wp2_with fail
          refine (awake_any _).mono ?_
          rintro e wd ⟨rfl, hk⟩
          have HKF := hide (HK.out.trans hk (by simp))
          clear hk
          go_wp2
          go_ret
          exact ⟨rfl, HKF.out.below (by simp)⟩
    · exfalso
      rcases hcase with ⟨h1, h2⟩ | ⟨h1, h2, h3, _⟩
      · omega
      · rcases hb2 with h | h
        · exact h h2
        · exact h h3
  · rcases hpost with ⟨p2, U, L, rs2, rfl, hp2, hU2, hL2, hm2, hk, hcase2⟩ | ⟨h0, hb2, rfl, hk⟩
    · exfalso
      rcases hcase2 with ⟨h1, h2⟩ | ⟨h1, h2, h3, _⟩
      · omega
      · rcases hbad with h | h
        · exact h h2
        · exact h h3
    · have HK4 := hide (HK3.out.trans hk (by simp))
      clear hk hb2 h0 hpos hbad HP c0 c1 c2
      go_wp2_with fail
      refine (awake_any _).mono ?_
      rintro e wd ⟨rfl, hk⟩
      have HKF := hide (HK4.out.trans hk (by simp))
      clear hk
      go_wp2
      go_ret
      exact ⟨rfl, HKF.out.below (by simp)⟩

/-! ### the row's step, as the guide's skeleton has it -/
set_option maxRecDepth 100000 in
theorem lifted (os : Os) (started : os.Started) (H : Type) (enc : TypeId × Value → H) :
    ReturnsInHanded {} Try.checked os 3 .any (Rows.usagePlaysSpec.pre6 enc Try.prog Try.f3 Rows.usagePlaysRow.domain false) (Rows.usagePlaysSpec.post enc Try.prog Try.f3 false true false false) := by
  refine returnsInHanded_of_change (C := Try.checked) own started (by kernel_rfl) Try.func3
    (ChangeSpec.witness6 (enc := enc) (C := Try.checked) false ⟨#[], #[.agg #[.int .i64 0, .int .i64 0, .int .i64 0], .slice none 0 0, .slice none 0 0], []⟩ 8 (by kernel_rfl) (by kernel_rfl) (by kernel_rfl) (by kernel_rfl)) ?_
  intro W base args ds gs before hval0 hW hcnd _
  have hval : ∀ (j : Nat) t v, Try.f3.params[j]? = some t → args[j]? = some v → Value.okWide Try.prog W .any base t v := hval0
  have hW' := hW
  obtain ⟨p, q, hA0, hV, rfl, hfz, hnd⟩ := hW
  have hA : DataW.TrodAll enc Try.prog W 0 (fun _ => true) true Try.f3.params.toList args.toList ds p := hA0
  rw [Try.params3] at hA hval
  obtain ⟨v0, vs0, d0, ds0, p0, q0, hargs, rfl, rfl, h0, r0⟩ := trodAll_cons hA
  obtain ⟨v1, vs1, d1, ds1, p1, q1, rfl, rfl, rfl, h1, r1⟩ := trodAll_cons r0
  obtain ⟨v2, vs2, d2, ds2, p2, q2, rfl, rfl, rfl, h2, r2⟩ := trodAll_cons r1
  obtain ⟨rfl, rfl, rfl⟩ := trodAll_nil r2
  obtain rfl : args = #[v0, v1, v2] := by cases args; simp_all
  obtain ⟨rfl, rfl⟩ := trodVars_none hV
  have k0 := h0
  have lt0 : ∀ x ∈ p0, x.block < W.heap.size := by obtain ⟨m, hm⟩ := k0; exact DataW.trod_lt m _ _ _ hm
  obtain ⟨xs0, rfl, hl0, hx0⟩ := agg_ints (ts := List.replicate 3 3) (n := 3) (by kernel_rfl) (by kernel_rfl) (fun u hu => by rw [List.eq_of_mem_replicate hu]; exact Try.underlying3) (by kernel_rfl) (hval 0 22 v0 rfl rfl)
  obtain ⟨a0_0, a0_1, a0_2, rfl⟩ := list3 hl0
  have w0_0 := hx0 a0_0 (by simp)
  have w0_1 := hx0 a0_1 (by simp)
  have w0_2 := hx0 a0_2 (by simp)
  obtain ⟨a1, len1, cap1, rfl⟩ := okWide_slice Try.underlying23 (hval 1 23 v1 rfl rfl)
  have k1 := h1
  have lt1 : ∀ x ∈ p1, x.block < W.heap.size := by obtain ⟨m, hm⟩ := k1; exact DataW.trod_lt m _ _ _ hm
  obtain ⟨l1, e1, w1, b1⟩ : ∃ l : List (List Int), l.length = len1 ∧ (Slab W 2 a1 l ∧ ∀ (i : Nat) (xs : List Int), l[i]? = some xs → ∀ (j : Nat) (y : Int), xs[j]? = some y → (Lit.int .i64 y).wf = true) ∧ len1 ≤ cap1 ∧ cap1 ≤ maxLen := by
    obtain ⟨fuel, hf⟩ := h1
    exact slab_wf Try.underlying23 (by kernel_rfl) (fun _ cs x hl h => struct_wf Try.underlying3 Try.underlying61 (by kernel_rfl) (by simp) (by kernel_rfl) _ cs x hl h) hf
  obtain ⟨a2, len2, cap2, rfl⟩ := okWide_slice Try.underlying24 (hval 2 24 v2 rfl rfl)
  have k2 := h2
  have lt2 : ∀ x ∈ p2, x.block < W.heap.size := by obtain ⟨m, hm⟩ := k2; exact DataW.trod_lt m _ _ _ hm
  obtain ⟨l2, e2, w2, b2⟩ : ∃ l : List (List Int), l.length = len2 ∧ (Slab W 3 a2 l ∧ ∀ (i : Nat) (xs : List Int), l[i]? = some xs → ∀ (j : Nat) (y : Int), xs[j]? = some y → (Lit.int .i64 y).wf = true) ∧ len2 ≤ cap2 ∧ cap2 ≤ maxLen := by
    obtain ⟨fuel, hf⟩ := h2
    exact slab_wf Try.underlying24 (by kernel_rfl) (fun _ cs x hl h => struct_wf Try.underlying3 Try.underlying39 (by kernel_rfl) (by simp) (by kernel_rfl) _ cs x hl h) hf
  clear hA0 hval0
  refine (walk a0_0 a0_1 a0_2 a1 len1 cap1 l1 a2 len2 cap2 l2 W w0_0 w0_1 w0_2 w1 e1 b1 w2 e2 b2).mono fun e W' ⟨he, bel⟩ => ?_
  subst he
  exact ⟨_, rfl, _, _, _, [], _, [], hW', trodAll_mk1 (shut_bool Try.underlying4 _), (trodAll_cons_mk (Below.trod laidOut (by kernel_rfl) (of_decide_eq_true (by kernel_rfl)) k0 bel lt0) (trodAll_cons_mk (Below.trod laidOut (by kernel_rfl) (of_decide_eq_true (by kernel_rfl)) k1 bel lt1) (trodAll_cons_mk (Below.trod laidOut (by kernel_rfl) (of_decide_eq_true (by kernel_rfl)) k2 bel lt2) trodAll_mk0))), rfl, bel.frame _, fun h => by cases h⟩

theorem over : Rows.usagePlaysRow.holds Try.pinned (OpenSpec.ofChange Rows.usagePlaysSpec) :=
  OpenClaim.holds_of_wide 3 Try.f3 rfl rfl rfl rfl rfl rfl rfl ⟨rfl, rfl, rfl, rfl, rfl⟩ rfl rfl rfl rfl rfl (by kernel_rfl) Try.func3 (by kernel_rfl)
    (of_decide_eq_true (by kernel_rfl)) (by unfold Func.isWrapper; first | (rw [if_pos (by decide +kernel)]; kernel_rfl) | (rw [if_neg (by decide +kernel)]; exact ⟨rfl, rfl⟩))
    (fun os started H enc _ => lifted os started H enc)

/-- The statement. -/
theorem proved : Rows.UsagePlaysSaid := over
#print axioms proved
end Go.Proofs.Ytjcnndnipnkhoaa.usagePlays

