/-
  The given statement ImageGoesSaid is proved: whatever the arguments are, the law returns true and leaves its input as it was. No conditions.
-/
import Derived.Test.YtfeepmahipecpaaShapes
import Derived.Test.YtfeepmahipecpaaSlabs
import Derived.Test.YtfeepmahipecpaaImageAwake
import Derived.Test.YtfeepmahipecpaaImageGoesM
import Derived.Deep.CutRange
import Derived.Deep.CutBlock
import Derived.StillTailTactics
import Derived.Test.YtfeepmahipecpaaAlike
import Derived.Test.YtfeepmahipecpaaOwns
import Derived.Test.YtfeepmahipecpaaFar
import Derived.WalkKit
import Derived.ProofKit
import Derived.OpenShut
import Derived.ShutString
import Derived.ChangeOld
import Derived.Below
namespace Go.Proofs.Ytfeepmahipecpaa.imageGoes
open Go.ChangeShapes Go.WideShapes Go.ChangeAt Go.RowKit
open Go.ChangeMaps (open_string shut_string)
open Go.Proofs.Ytfeepmahipecpaa.mem Go.Proofs.Ytfeepmahipecpaa.base Go.Proofs.Ytfeepmahipecpaa.im Go.Proofs.Ytfeepmahipecpaa.pd Go.Proofs.Ytfeepmahipecpaa.pg Go.Proofs.Ytfeepmahipecpaa.owns
set_option linter.unusedVariables false

theorem own : ownKnob Try.prog.godebug = none := by kernel_rfl
theorem laidOut : laidOutB Try.prog = true := by kernel_rfl

set_option linter.unusedSimpArgs false
set_option maxRecDepth 100000 in
set_option maxHeartbeats 24000000 in
theorem walk (a0 : Int) (a1 : Option Addr) (len1 cap1 : Nat) (l1 : List (List Int)) (w : World) (w0 : (Lit.int .i64 a0).wf = true) (w1 : Slab w 3 a1 l1) (e1 : l1.length = len1) (b1 : len1 ≤ cap1 ∧ cap1 ≤ maxLen) :
    Calls Try.prog 4 #[.int .i64 a0, .slice a1 len1 cap1] w fun e w' => e = .returned (.bool true) ∧ Below w.heap.size w w' := by
  by_cases hn1 : a0 < 1
  · have hd1 : decide (a0 < 1) = true := decide_eq_true hn1
    clear w1
    go_enter Try.func4, Try.ntmps4
    go_wp2_with fail
    refine (awake_any _).mono ?_
    rintro e w' ⟨rfl, hk⟩
    have HB := hide (hk.below (by simp))
    clear hk
    go_wp2
    go_ret
    exact ⟨rfl, HB.out⟩
  have hd1 : decide (a0 < 1) = false := decide_eq_false hn1
  by_cases hn2 : a0 > 64
  · have hd2 : decide (a0 > 64) = true := decide_eq_true hn2
    clear w1
    go_enter Try.func4, Try.ntmps4
    go_wp2_with fail
    refine (awake_any _).mono ?_
    rintro e w' ⟨rfl, hk⟩
    have HB := hide (hk.below (by simp))
    clear hk
    go_wp2
    go_ret
    exact ⟨rfl, HB.out⟩
  have hd2 : decide (a0 > 64) = false := decide_eq_false hn2
  by_cases hn3 : (len1 : Int) > 80
  · have hd3 : decide ((len1 : Int) > 80) = true := decide_eq_true hn3
    clear w1
    go_enter Try.func4, Try.ntmps4
    go_wp2_with fail
    refine (awake_any _).mono ?_
    rintro e w' ⟨rfl, hk⟩
    have HB := hide (hk.below (by simp))
    clear hk
    go_wp2
    go_ret
    exact ⟨rfl, HB.out⟩
  have hd3 : decide ((len1 : Int) > 80) = false := decide_eq_false hn3
  obtain ⟨n, rfl⟩ : ∃ n : Nat, a0 = (n : Int) := ⟨a0.toNat, by omega⟩
  have hb1 : 1 ≤ n := by omega
  have hb2 : n ≤ 64 := by omega
  have hb3 : len1 ≤ 80 := by omega
  have HSL := hide w1
  have HE1 := hide e1
  clear w1 e1 hn1 hn2 hn3
  go_enter Try.func4, Try.ntmps4
  go_wp2_with fail
  refine (inew_yes n _ hb1 hb2).mono ?_
  rintro e wA ⟨X, rfl, hxn, hi, hk⟩
  have HXN := hide hxn
  have HIA := hide hi
  have HKA := hide hk
  clear hxn hi hk
  obtain ⟨m, hlq⟩ : ∃ m : Nat, (len1 : Int) + 2 = (m : Int) := ⟨len1 + 2, by omega⟩
  have hmm : m = len1 + 2 := by omega
  have HMM := hide hmm
  have hmk := made_marks m (by omega) wA
  have HCB0 := hide (Blk.new wA 4 (bv (List.replicate m false)).toArray)
  have HCK0 := hide ((Kept.refl [] wA).alloc (.cells (bv (List.replicate m false)).toArray 4))
  clear hmm
  go_upto_region 7 with fail
  generalize hwB : (wA.alloc (.cells (bv (List.replicate m false)).toArray 4)) = wB at HCB0 HCK0 ⊢
  obtain ⟨gc, hgc⟩ : ∃ gc, wA.heap.size = gc := ⟨_, rfl⟩
  have HGC := hide hgc
  rw [hgc] at HCB0
  simp only [hgc]
  clear hwB hgc hmk
  have HI0 := hide (HIA.out.keep HCK0.out)
  have HK0 := hide (HKA.out.trans HCK0.out (by simp))
  have HAP := hide (show gc ∉ X.all ∧ w.heap.size ≤ gc from by
    have h1 := HIA.out.lt
    have h2 := HKA.out.size
    have h3 := HGC.out
    exact ⟨fun hm => by have := h1 _ hm; omega, by omega⟩)
  have HTU := hide (show ∀ (S : List Nat) (W1 W2 : World), Kept [] w W1 → Kept S W1 W2 → (∀ y ∈ S, y ∈ X.all) → Kept [] w W2 from fun S W1 W2 k1 k2 hs => k1.trans k2 (fun y hy => .inr (HXN.out y (hs y hy))))
  have HCX := hide (show ∀ (W1 W2 : World) (S : List Nat) (cm : List Bool), Blk W1 gc 4 (bv cm).toArray → Kept S W1 W2 → (∀ y ∈ S, y ∈ X.all) → Blk W2 gc 4 (bv cm).toArray from fun W1 W2 S cm h k hs => k.blk h (fun hm => HAP.out.1 (hs _ hm)))
  have HTC := hide (show ∀ (W1 W2 : World), Kept [] w W1 → Kept [gc] W1 W2 → Kept [] w W2 from fun W1 W2 k1 k2 => k1.trans k2 (fun y hy => .inr (by simp at hy; subst hy; exact HAP.out.2)))
  have HIC := hide (show ∀ (W1 W2 : World) (M : Im), IAt W1 X M → Kept [gc] W1 W2 → IAt W2 X M from fun W1 W2 M h k => h.kept k (fun y hy hm => by simp at hm; subst hm; exact HAP.out.1 hy))
  have HCM0 := hide (show Came (List.replicate m false) len1 (Im.fresh n).all from ⟨by simp; exact HMM.out, fun r hr => by rw [all_fresh]; simp [List.getD_eq_getElem?_getD, List.getElem?_replicate]; split <;> rfl⟩)
  clear HCK0
  go_wp2
  go_loopw [4, 7, 8, 9, 10, 11, 12] (fun _ i _ _ _ _ _ wr => ∃ (j : Nat) (M : Im) (cm : List Bool), j ≤ len1 ∧ i = .int .i64 j ∧ Hid (IAt wr X M) ∧ Hid (MvI n j M) ∧ Hid (Blk wr gc 4 (bv cm).toArray) ∧ Hid (Came cm len1 M.all ∧ M.all.Nodup) ∧ Hid (Kept [] w wr)) (fun _ i _ _ _ _ _ _ => len1 - (intOf i).toNat)
  case atStart => exact ⟨0, Im.fresh n, _, Nat.zero_le _, rfl, HI0, hide MvI.fresh, HCB0, hide ⟨HCM0.out, by rw [all_fresh]; exact List.nodup_nil⟩, HK0⟩
  case round =>
    clear HI0 HCB0 HCM0 HK0
    obtain ⟨j, M, cm, hj, rfl, HIM, HMV, HCM, HCA, HKR⟩ := hrel
    by_cases hlt : j < len1
    · obtain ⟨ad, kd, bb, nn, rfl, _, q0, q1, q2⟩ := deed_at HSL.out (i := j) (by rw [HE1.out]; exact hlt)
      have HQ0 := hide q0
      have r0 := HKR.out.cell q0 (by simp)
      have r1 := HKR.out.cell q1 (by simp)
      have r2 := HKR.out.cell q2 (by simp)
      clear q0 q1 q2
      obtain ⟨k, hk0⟩ : ∃ k : Nat, bb % (n : Int) = (k : Int) := ⟨(bb % (n : Int)).toNat, by have := Int.emod_nonneg bb (b := (n : Int)) (by omega); omega⟩
      have hkn : k < n := by have := Int.emod_lt_of_pos bb (b := (n : Int)) (by omega); omega
      obtain ⟨q, hq0⟩ : ∃ q : Nat, nn % ((n : Int) - k) = (q : Int) := ⟨(nn % ((n : Int) - k)).toNat, by have := Int.emod_nonneg nn (b := (n : Int) - k) (by omega); omega⟩
      have hqn : k + (q + 1) ≤ n := by have := Int.emod_lt_of_pos nn (b := (n : Int) - k) (by omega); omega
      have HLN := hide HMV.out.1.1
      have hkM : k < M.b.l.length := by rw [HLN.out]; exact hkn
      have HKE := hide hk0
      have HQE := hide hq0
      clear hk0 hq0
      have hsb : IntKind.i64.wrap ((n : Int) - k) = (n : Int) - k := by rw [IntKind.wrap_i64]; omega
      obtain ⟨z, hz⟩ : ∃ z : Nat, (1 : Int) + (q : Int) = (z : Int) := ⟨q + 1, by omega⟩
      have hz1 : 1 ≤ z := by omega
      have hkz : k + z ≤ n := by omega
      go_wp2_with fail
      refine (round_any bb n _ (by omega) (by omega)).mono ?_
      rintro e w' ⟨rfl, rfl⟩
      rw [HKE.out]
      go_wp2_with fail
      refine (round_any nn ((n : Int) - k) _ (by omega) (by omega)).mono ?_
      rintro e w' ⟨rfl, rfl⟩
      rw [HQE.out]
      go_upto_block 2 with fail
      go_cut [10, 11] from 36 to 169 (fun s10 s11 wx => ∃ (M2 : Im) (gs : List Int) (o : Int) (A : Option Addr) (cp : Nat), s10 = .slice A gs.length cp ∧ s11 = .int .i64 o ∧ Hid (Vals wx [gc] A (gs.map I)) ∧ Hid (IAt wx X M2) ∧ Hid (MvI n ((j : Int) + 1) M2) ∧ Hid (Blk wx gc 4 (bv cm).toArray) ∧ Hid ((M2.all ++ (gs ++ if o = 0 then [] else [o])).Perm (M.all ++ if kd = 1 ∨ kd = 5 then [(j : Int) + 1] else [])) ∧ (o ≠ 0 → A = none ∧ cp = 0 ∧ gs = []) ∧ (¬ (kd = 1 ∨ kd = 5) → o = 0) ∧ Hid (Kept [] w wx))
      case first => as_aux_lemma =>
        by_cases h1 : kd = 1
        · subst h1
          go_wp2_with fail
          refine (iwrite_yes HIM.out k ((j : Int) + 1) hkM (by omega) (by omega)).mono ?_
          rintro e w2 ⟨rfl, hi, hk⟩
          have HI2 := hide hi
          have HK2 := hide (HTU.out _ _ _ HKR.out hk (by obtain ⟨m1, m2, m3⟩ := X.tmem true; simp; exact ⟨m2, m3⟩))
          have HM2 := hide (HMV.out.put (by omega) true k)
          have HC2 := hide (HCX.out _ _ _ _ HCM.out hk (by obtain ⟨m1, m2, m3⟩ := X.tmem true; simp; exact ⟨m2, m3⟩))
          have HPM := hide (put_all HMV.out true k hkn ((j : Int) + 1) (by omega) (by omega))
          clear hi hk
          go_wp2
          go_meet
          exact ⟨_, [], _, none, 0, rfl, rfl, hide (Vals.nil _ _ _), HI2, HM2, HC2, hide (by rw [List.nil_append, if_pos (show True ∨ (1 : Int) = 5 from .inl trivial)]; exact HPM.out), (fun _ => ⟨rfl, rfl, rfl⟩), (fun hh => absurd (show True ∨ (1 : Int) = 5 from .inl trivial) hh), HK2⟩
        have d1 : (kd == 1) = false := beq_eq_false_iff_ne.2 h1
        by_cases h2 : kd = 2
        · subst h2
          go_wp2_with fail
          refine (itrim_yes HIM.out k z hz1 (by rw [HLN.out]; exact hkz)).mono ?_
          rintro e w2 ⟨v, rfl, ho, hi, hk⟩
          obtain ⟨A, cp, rfl, _, hv0⟩ := own_read ho
          have hv := hv0 [gc] (fun i hi => .inl (by simp at hi; subst hi; exact HCM.out.lt))
          clear hv0
          have HI2 := hide hi
          have HK2 := hide (HTU.out _ _ _ HKR.out hk (by obtain ⟨m1, m2, m3⟩ := X.tmem true; simp; exact ⟨m2, m3⟩))
          have HM2 := hide (HMV.out.drop (by omega) true k z)
          have HC2 := hide (HCX.out _ _ _ _ HCM.out hk (by obtain ⟨m1, m2, m3⟩ := X.tmem true; simp; exact ⟨m2, m3⟩))
          have HPM := hide (drop_all HMV.out.1 true k z hkz)
          have HV := hide hv
          clear hi hk ho hv
          go_wp2
          go_meet
          exact ⟨_, _, 0, A, cp, rfl, rfl, HV, HI2, HM2, HC2, hide (by rw [if_pos (show (0 : Int) = 0 from rfl), if_neg (show ¬ ((2 : Int) = 1 ∨ (2 : Int) = 5) from by decide), List.append_nil, List.append_nil]; exact HPM.out), (fun hh => absurd rfl hh), (fun _ => rfl), HK2⟩
        have d2 : (kd == 2) = false := beq_eq_false_iff_ne.2 h2
        by_cases h3 : kd = 3
        · subst h3
          go_wp2_with fail
          refine (commit_any HIM.out).mono ?_
          rintro e w2 ⟨v, rfl, ho, hi, hk⟩
          obtain ⟨A, cp, rfl, _, hv0⟩ := own_read ho
          have hv := hv0 [gc] (fun i hi => .inl (by simp at hi; subst hi; exact HCM.out.lt))
          clear hv0
          have HI2 := hide hi
          have HK2 := hide (HTU.out _ _ _ HKR.out hk (by obtain ⟨m1, m2, m3, m4, m5, m6, m7⟩ := X.mem; simp; exact ⟨m3, m4, m6, m7⟩))
          have HM2 := hide (HMV.out.commit (by omega))
          have HC2 := hide (HCX.out _ _ _ _ HCM.out hk (by obtain ⟨m1, m2, m3, m4, m5, m6, m7⟩ := X.mem; simp; exact ⟨m3, m4, m6, m7⟩))
          have HPM := hide (commit_all HMV.out)
          have HV := hide hv
          clear hi hk ho hv
          go_wp2
          go_meet
          exact ⟨_, _, 0, A, cp, rfl, rfl, HV, HI2, HM2, HC2, hide (by rw [if_pos (show (0 : Int) = 0 from rfl), if_neg (show ¬ ((3 : Int) = 1 ∨ (3 : Int) = 5) from by decide), List.append_nil, List.append_nil]; exact HPM.out), (fun hh => absurd rfl hh), (fun _ => rfl), HK2⟩
        have d3 : (kd == 3) = false := beq_eq_false_iff_ne.2 h3
        by_cases h4 : kd = 4
        · subst h4
          go_wp2_with fail
          refine (forget_any HIM.out).mono ?_
          rintro e w2 ⟨v, rfl, ho, hi, hk⟩
          obtain ⟨A, cp, rfl, _, hv0⟩ := own_read ho
          have hv := hv0 [gc] (fun i hi => .inl (by simp at hi; subst hi; exact HCM.out.lt))
          clear hv0
          have HI2 := hide hi
          have HK2 := hide (HTU.out _ _ _ HKR.out hk (by obtain ⟨m1, m2, m3, m4, m5, m6, m7⟩ := X.mem; simp; exact ⟨m6, m7⟩))
          have HM2 := hide (HMV.out.forget (by omega))
          have HC2 := hide (HCX.out _ _ _ _ HCM.out hk (by obtain ⟨m1, m2, m3, m4, m5, m6, m7⟩ := X.mem; simp; exact ⟨m6, m7⟩))
          have HPM := hide (forget_all HMV.out.1)
          have HV := hide hv
          clear hi hk ho hv
          go_wp2
          go_meet
          exact ⟨_, _, 0, A, cp, rfl, rfl, HV, HI2, HM2, HC2, hide (by rw [if_pos (show (0 : Int) = 0 from rfl), if_neg (show ¬ ((4 : Int) = 1 ∨ (4 : Int) = 5) from by decide), List.append_nil, List.append_nil]; exact HPM.out), (fun hh => absurd rfl hh), (fun _ => rfl), HK2⟩
        have d4 : (kd == 4) = false := beq_eq_false_iff_ne.2 h4
        by_cases h5 : kd = 5
        · subst h5
          go_wp2_with fail
          refine (iput_yes HIM.out k ((j : Int) + 1) hkM (by omega) (by omega)).mono ?_
          rintro e w2 ⟨rfl, hi, hk⟩
          have HI2 := hide hi
          have HK2 := hide (HTU.out _ _ _ HKR.out hk (by obtain ⟨m1, m2, m3⟩ := X.tmem false; simp; exact ⟨m2, m3⟩))
          have HM2 := hide (HMV.out.put (by omega) false k)
          have HC2 := hide (HCX.out _ _ _ _ HCM.out hk (by obtain ⟨m1, m2, m3⟩ := X.tmem false; simp; exact ⟨m2, m3⟩))
          have HPM := hide (put_all HMV.out false k hkn ((j : Int) + 1) (by omega) (by omega))
          clear hi hk
          go_wp2
          go_meet
          exact ⟨_, [], _, none, 0, rfl, rfl, hide (Vals.nil _ _ _), HI2, HM2, HC2, hide (by rw [List.nil_append, if_pos (show (5 : Int) = 1 ∨ True from .inr trivial)]; exact HPM.out), (fun _ => ⟨rfl, rfl, rfl⟩), (fun hh => absurd (show (5 : Int) = 1 ∨ True from .inr trivial) hh), HK2⟩
        have d5 : (kd == 5) = false := beq_eq_false_iff_ne.2 h5
        by_cases h6 : kd = 6
        · subst h6
          go_wp2_with fail
          refine (idrop_yes HIM.out k z hz1 (by rw [HLN.out]; exact hkz)).mono ?_
          rintro e w2 ⟨v, rfl, ho, hi, hk⟩
          obtain ⟨A, cp, rfl, _, hv0⟩ := own_read ho
          have hv := hv0 [gc] (fun i hi => .inl (by simp at hi; subst hi; exact HCM.out.lt))
          clear hv0
          have HI2 := hide hi
          have HK2 := hide (HTU.out _ _ _ HKR.out hk (by obtain ⟨m1, m2, m3⟩ := X.tmem false; simp; exact ⟨m2, m3⟩))
          have HM2 := hide (HMV.out.drop (by omega) false k z)
          have HC2 := hide (HCX.out _ _ _ _ HCM.out hk (by obtain ⟨m1, m2, m3⟩ := X.tmem false; simp; exact ⟨m2, m3⟩))
          have HPM := hide (drop_all HMV.out.1 false k z hkz)
          have HV := hide hv
          clear hi hk ho hv
          go_wp2
          go_meet
          exact ⟨_, _, 0, A, cp, rfl, rfl, HV, HI2, HM2, HC2, hide (by rw [if_pos (show (0 : Int) = 0 from rfl), if_neg (show ¬ ((6 : Int) = 1 ∨ (6 : Int) = 5) from by decide), List.append_nil, List.append_nil]; exact HPM.out), (fun hh => absurd rfl hh), (fun _ => rfl), HK2⟩
        have d6 : (kd == 6) = false := beq_eq_false_iff_ne.2 h6
        have HM2 := hide HMV.out.more
        go_wp2
        go_meet
        exact ⟨_, [], 0, none, 0, rfl, rfl, hide (Vals.nil _ _ _), HIM, HM2, HCM, hide (by rw [if_pos (show (0 : Int) = 0 from rfl), if_neg (show ¬ (kd = 1 ∨ kd = 5) from fun hh => hh.elim h1 h5)]; simp), (fun hh => absurd rfl hh), (fun _ => rfl), HKR⟩
      case rest => as_aux_lemma =>
        obtain ⟨M2, gs, o, A, cp, rfl, rfl, HV, HI2, HM2, HC2, HPM, hon, hkn2, HK2⟩ := hcut
        have r0 := HK2.out.cell HQ0.out (by simp)
        have HAL := hide (show M.all.length ≤ 128 from all_len HMV.out.1 hb2)
        clear HIM HCM HKR r1 r2
        by_cases hnew : kd = 1 ∨ kd = 5
        · rw [if_pos hnew] at HPM
          by_cases hk1 : kd = 1
          · have d1 : (kd == 1) = true := beq_iff_eq.2 hk1
            have hjm : j + 1 < m := by have := HMM.out; omega
            obtain ⟨bo, hbo⟩ : ∃ b, cm[j + 1]? = some b := ⟨_, List.getElem?_eq_getElem (by have := HCA.out.1.1; omega)⟩
            have cc0 : wc.cell? ⟨gc, j + 1, none⟩ = some (.bool bo) := by rw [HC2.out.cell]; simp [bv, hbo]
            have cf0 := HC2.out.frozen (j + 1)
            have HSg := hide ((Kept.refl [gc] wc).set_ (b := gc) (.inl (by simp)) (j + 1) (.bool true))
            have HC3 := hide (show Blk (wc.setCell ⟨gc, j + 1, none⟩ (.bool true)) gc 4 (bv (cm.set (j + 1) true)).toArray from by have := HC2.out.set_ (j + 1) (.bool true); rw [List.setIfInBounds_toArray] at this; unfold bv at this ⊢; rwa [List.map_set])
            have HI3 := hide (HIC.out _ _ _ HI2.out HSg.out)
            have HV3 := hide (HV.out.kept HSg.out (fun i hi => hi))
            have HK3 := hide (HTC.out _ _ HK2.out HSg.out)
            have HCA3 := hide (show Came (cm.set (j + 1) true) len1 (M.all ++ [(j : Int) + 1]) ∧ (M.all ++ [(j : Int) + 1]).Nodup from by
              have h1 := HCA.out.1.add (j + 1) (by omega)
              rw [show ((j + 1 : Nat) : Int) = (j : Int) + 1 by omega] at h1
              refine ⟨h1, List.nodup_append.2 ⟨HCA.out.2, by simp, fun x hx y hy e => ?_⟩⟩
              have h2 := all_le HMV.out x hx
              simp at hy
              omega)
            obtain ⟨wd, hwd⟩ : ∃ wd, wc.setCell ⟨gc, j + 1, none⟩ (.bool true) = wd := ⟨_, rfl⟩
            rw [hwd] at HSg HC3 HI3 HV3 HK3
            obtain ⟨cm3, hcm3⟩ : ∃ c, cm.set (j + 1) true = c := ⟨_, rfl⟩
            rw [hcm3] at HC3 HCA3
            clear hbo hcm3 hk1 hnew hkn2
            by_cases ho : o = 0
            · subst ho
              rw [if_pos rfl, List.append_nil] at HPM
              have HPG := hide (show (M2.all ++ gs).Perm (M.all ++ [(j : Int) + 1]) from HPM.out)
              have HS1 := hide (show Came cm3 len1 (M.all ++ [(j : Int) + 1]) ∧ (M.all ++ [(j : Int) + 1]).Nodup from HCA3.out)
              have HS2 := hide (show ∀ x ∈ M.all ++ [(j : Int) + 1], 1 ≤ x ∧ x ≤ (j : Int) + 1 from fun x hx => (List.mem_append.1 hx).elim (fun h => by have := all_le HMV.out x h; omega) (fun h => by simp at h; omega))
              have HGL := hide (show (gs).length ≤ 200 from by have h1 := HPG.out.length_eq; have h2 := HAL.out; simp only [List.length_append, List.length_singleton] at h1; omega)
              have HI6 := hide HI3.out
              have HC6 := hide HC3.out
              have HV6 := hide HV3.out
              have HK6 := hide HK3.out
              have HND := hide (show (M2.all ++ gs).Nodup from HPG.out.nodup_iff.2 HS1.out.2)
              have HCQ := hide (show Came cm3 len1 (M2.all ++ gs.drop 0) from HS1.out.1.perm HPG.out.symm)
              have HIN := hide (show ∀ x ∈ gs, 1 ≤ x ∧ x ≤ (j : Int) + 1 from fun x hx => HS2.out x (HPG.out.mem_iff.1 (List.mem_append_right _ hx)))
              have hGl : gs.length ≤ 200 := HGL.out
              go_wp2
              go_loopw [4, 12] (fun _ s12 wr => ∃ (s : Nat) (cmS : List Bool), s ≤ gs.length ∧ s12 = .int .i64 s ∧ Hid (IAt wr X M2) ∧ Hid (Blk wr gc 4 (bv cmS).toArray) ∧ Hid (Came cmS len1 (M2.all ++ gs.drop s)) ∧ Hid (Vals wr [gc] A (gs.map I)) ∧ Hid (Kept [] w wr)) (fun _ s12 _ => gs.length - (intOf s12).toNat)
              case atStart => exact ⟨0, cm3, Nat.zero_le _, rfl, HI6, HC6, HCQ, HV6, HK6⟩
              case round =>
                clear HI6 HC6 HCQ HV6 HK6
                obtain ⟨s, cmS, hs, rfl, HIs, HCs, HCa, HVs, HKs⟩ := hrel
                by_cases hsG : s < gs.length
                · obtain ⟨x, hx⟩ : ∃ x, gs[s]? = some x := ⟨_, List.getElem?_eq_getElem hsG⟩
                  obtain ⟨ad2, rfl, hnb, g0⟩ := HVs.out s (I x) (by rw [List.getElem?_map, hx]; rfl)
                  unfold I at g0
                  have hxr := HIN.out x (List.mem_of_getElem? hx)
                  obtain ⟨y, rfl⟩ : ∃ y : Nat, x = (y : Int) := ⟨x.toNat, by omega⟩
                  have hdr : gs.drop s = (y : Int) :: gs.drop (s + 1) := by rw [List.drop_eq_getElem_cons hsG]; congr 1; have := (List.getElem?_eq_some_iff.1 hx).2; exact this
                  have HTK := hide (Came.take_ (by have := HCa.out; rwa [hdr] at this) (HND.out.sublist (by rw [← hdr]; exact List.Sublist.append (List.Sublist.refl _) (List.drop_sublist _ _))) y rfl (by omega))
                  have q1 : decide ((y : Int) < 1) = false := decide_eq_false (by omega)
                  have q2 : decide ((y : Int) > (len1 : Int)) = false := decide_eq_false (by omega)
                  have b0 : wr.cell? ⟨gc, y, none⟩ = some (.bool true) := by rw [HCs.out.cell]; simp [bv, HTK.out.1]
                  have f0 := HCs.out.frozen y
                  have HS := hide ((Kept.refl [gc] wr).set_ (b := gc) (.inl (by simp)) y (.bool false))
                  have HC7 := hide (show Blk (wr.setCell ⟨gc, y, none⟩ (.bool false)) gc 4 (bv (cmS.set y false)).toArray from by have := HCs.out.set_ y (.bool false); rw [List.setIfInBounds_toArray] at this; unfold bv at this ⊢; rwa [List.map_set])
                  have hym : y < m := by have := HMM.out; omega
                  clear hx hdr
                  go_wp2
                  go_roundw
                  case rel => exact ⟨s + 1, _, by omega, by go_num, hide (HIC.out _ _ _ HIs.out HS.out), HC7, hide HTK.out.2, hide (HVs.out.kept HS.out (fun i hi => hi)), hide (HTC.out _ _ HKs.out HS.out)⟩
                  case measure => simp [intOf]; omega
                · obtain rfl : s = gs.length := by omega
                  have HCE := hide (show Came cmS len1 M2.all ∧ M2.all.Nodup from by have h1 := HCa.out; rw [List.drop_of_length_le (Nat.le_refl _), List.append_nil] at h1; exact ⟨h1, (List.nodup_append.1 HND.out).1⟩)
                  go_wp2
                  go_roundw
                  case rel => exact ⟨j + 1, _, _, by omega, by go_num, HIs, HM2, HCs, HCE, HKs⟩
                  case measure => simp [intOf]; omega
            · obtain ⟨rfl, rfl, rfl⟩ := hon ho
              have ho1 : (o != 0) = true := by rw [bne_iff_ne]; exact ho
              rw [if_neg ho, List.nil_append] at HPM
              clear hon ho
              obtain ⟨G, HG⟩ : ∃ G : List Int, Hid (G = [o]) := ⟨_, hide rfl⟩
              have HOWN := hide (World.ownsRow_nil (wd.alloc (.cells #[.int .i64 o] 3)) wd.heap.size 3 1)
              have HLIT := hide (Vals.lit wd [] 3 #[.int .i64 o] (0, 0) [.int .i64 o] rfl (by simp))
              have HBL := hide (show wd.heap.size ≤ (wd.alloc (.cells #[.int .i64 o] 3)).heap.size from by simp)
              have HGL0 := hide (show gc < wd.heap.size from HC3.out.lt)
              go_wp2_with (
                with_reducible refine wpList_append_vals (o := ⟨some 133, _, _, _, _, _⟩) ?_ (.tmp 130) (.tmp 132) 29 ?_ wd.heap.size 3 (.int .i64 0) 1 8 Try.underlying29 int_info ?_ (by omega) (.slice none 0 0) 0 [] ?_ HOWN.out [] (some ⟨wd.heap.size, 0, none⟩) 1 1 [.int .i64 o] ?_ rfl HLIT.out (by simp [Value.oneCell']) (by simp only [maxLen]; omega) (by omega) HBL.out ?_
                · rfl
                · rfl
                · rfl
                · rfl
                · rfl
                intro v7 w7 hown7 hk7 hat7
                obtain ⟨A7, c7, hv7, _, hrd7⟩ := own_read hown7
                have hv8 : v7 = .slice A7 G.length c7 := by rw [HG.out]; exact hv7
                clear hv7
                subst hv8
                have HV6 := hide (show Vals w7 [gc] A7 (G.map I) from by rw [HG.out]; exact hrd7 [gc] (fun i hi => .inl (by simp at hi; subst hi; exact HGL0.out)))
                have HKA7 := hide (show Kept [] wd w7 from ((Kept.refl [] wd).alloc _).trans hk7 (by simp [Value.ownBlock]))
                clear hown7 hk7 hat7 hrd7)
              have HPG := hide (show (M2.all ++ G).Perm (M.all ++ [(j : Int) + 1]) from by rw [HG.out]; exact HPM.out)
              have HS1 := hide HCA3.out
              have HS2 := hide (show ∀ x ∈ M.all ++ [(j : Int) + 1], 1 ≤ x ∧ x ≤ (j : Int) + 1 from fun x hx => (List.mem_append.1 hx).elim (fun h => by have := all_le HMV.out x h; omega) (fun h => by simp at h; omega))
              have HGL := hide (show G.length ≤ 200 from by rw [HG.out]; simp)
              have HI6 := hide (HI3.out.keep HKA7.out)
              have HC6 := hide (HKA7.out.blk HC3.out (by simp))
              have HK6 := hide (HK3.out.trans HKA7.out (by simp))
              have HND := hide (show (M2.all ++ G).Nodup from HPG.out.nodup_iff.2 HS1.out.2)
              have HCQ := hide (show Came cm3 len1 (M2.all ++ G.drop 0) from HS1.out.1.perm HPG.out.symm)
              have HIN := hide (show ∀ x ∈ G, 1 ≤ x ∧ x ≤ (j : Int) + 1 from fun x hx => HS2.out x (HPG.out.mem_iff.1 (List.mem_append_right _ hx)))
              have hGl : G.length ≤ 200 := HGL.out
              go_wp2
              go_loopw [4, 12] (fun _ s12 wr => ∃ (s : Nat) (cmS : List Bool), s ≤ G.length ∧ s12 = .int .i64 s ∧ Hid (IAt wr X M2) ∧ Hid (Blk wr gc 4 (bv cmS).toArray) ∧ Hid (Came cmS len1 (M2.all ++ G.drop s)) ∧ Hid (Vals wr [gc] A7 (G.map I)) ∧ Hid (Kept [] w wr)) (fun _ s12 _ => G.length - (intOf s12).toNat)
              case atStart => exact ⟨0, cm3, Nat.zero_le _, rfl, HI6, HC6, HCQ, HV6, HK6⟩
              case round =>
                clear HI6 HC6 HCQ HV6 HK6
                obtain ⟨s, cmS, hs, rfl, HIs, HCs, HCa, HVs, HKs⟩ := hrel
                by_cases hsG : s < G.length
                · obtain ⟨x, hx⟩ : ∃ x, G[s]? = some x := ⟨_, List.getElem?_eq_getElem hsG⟩
                  obtain ⟨ad2, rfl, hnb, g0⟩ := HVs.out s (I x) (by rw [List.getElem?_map, hx]; rfl)
                  unfold I at g0
                  have hxr := HIN.out x (List.mem_of_getElem? hx)
                  obtain ⟨y, rfl⟩ : ∃ y : Nat, x = (y : Int) := ⟨x.toNat, by omega⟩
                  have hdr : G.drop s = (y : Int) :: G.drop (s + 1) := by rw [List.drop_eq_getElem_cons hsG]; congr 1; have := (List.getElem?_eq_some_iff.1 hx).2; exact this
                  have HTK := hide (Came.take_ (by have := HCa.out; rwa [hdr] at this) (HND.out.sublist (by rw [← hdr]; exact List.Sublist.append (List.Sublist.refl _) (List.drop_sublist _ _))) y rfl (by omega))
                  have q1 : decide ((y : Int) < 1) = false := decide_eq_false (by omega)
                  have q2 : decide ((y : Int) > (len1 : Int)) = false := decide_eq_false (by omega)
                  have b0 : wr.cell? ⟨gc, y, none⟩ = some (.bool true) := by rw [HCs.out.cell]; simp [bv, HTK.out.1]
                  have f0 := HCs.out.frozen y
                  have HS := hide ((Kept.refl [gc] wr).set_ (b := gc) (.inl (by simp)) y (.bool false))
                  have HC7 := hide (show Blk (wr.setCell ⟨gc, y, none⟩ (.bool false)) gc 4 (bv (cmS.set y false)).toArray from by have := HCs.out.set_ y (.bool false); rw [List.setIfInBounds_toArray] at this; unfold bv at this ⊢; rwa [List.map_set])
                  have hym : y < m := by have := HMM.out; omega
                  clear hx hdr
                  go_wp2
                  go_roundw
                  case rel => exact ⟨s + 1, _, by omega, by go_num, hide (HIC.out _ _ _ HIs.out HS.out), HC7, hide HTK.out.2, hide (HVs.out.kept HS.out (fun i hi => hi)), hide (HTC.out _ _ HKs.out HS.out)⟩
                  case measure => simp [intOf]; omega
                · obtain rfl : s = G.length := by omega
                  have HCE := hide (show Came cmS len1 M2.all ∧ M2.all.Nodup from by have h1 := HCa.out; rw [List.drop_of_length_le (Nat.le_refl _), List.append_nil] at h1; exact ⟨h1, (List.nodup_append.1 HND.out).1⟩)
                  go_wp2
                  go_roundw
                  case rel => exact ⟨j + 1, _, _, by omega, by go_num, HIs, HM2, HCs, HCE, HKs⟩
                  case measure => simp [intOf]; omega
          · have d1 : (kd == 1) = false := beq_eq_false_iff_ne.2 hk1
            have d5 : (kd == 5) = true := beq_iff_eq.2 (hnew.resolve_left hk1)
            have hjm : j + 1 < m := by have := HMM.out; omega
            obtain ⟨bo, hbo⟩ : ∃ b, cm[j + 1]? = some b := ⟨_, List.getElem?_eq_getElem (by have := HCA.out.1.1; omega)⟩
            have cc0 : wc.cell? ⟨gc, j + 1, none⟩ = some (.bool bo) := by rw [HC2.out.cell]; simp [bv, hbo]
            have cf0 := HC2.out.frozen (j + 1)
            have HSg := hide ((Kept.refl [gc] wc).set_ (b := gc) (.inl (by simp)) (j + 1) (.bool true))
            have HC3 := hide (show Blk (wc.setCell ⟨gc, j + 1, none⟩ (.bool true)) gc 4 (bv (cm.set (j + 1) true)).toArray from by have := HC2.out.set_ (j + 1) (.bool true); rw [List.setIfInBounds_toArray] at this; unfold bv at this ⊢; rwa [List.map_set])
            have HI3 := hide (HIC.out _ _ _ HI2.out HSg.out)
            have HV3 := hide (HV.out.kept HSg.out (fun i hi => hi))
            have HK3 := hide (HTC.out _ _ HK2.out HSg.out)
            have HCA3 := hide (show Came (cm.set (j + 1) true) len1 (M.all ++ [(j : Int) + 1]) ∧ (M.all ++ [(j : Int) + 1]).Nodup from by
              have h1 := HCA.out.1.add (j + 1) (by omega)
              rw [show ((j + 1 : Nat) : Int) = (j : Int) + 1 by omega] at h1
              refine ⟨h1, List.nodup_append.2 ⟨HCA.out.2, by simp, fun x hx y hy e => ?_⟩⟩
              have h2 := all_le HMV.out x hx
              simp at hy
              omega)
            obtain ⟨wd, hwd⟩ : ∃ wd, wc.setCell ⟨gc, j + 1, none⟩ (.bool true) = wd := ⟨_, rfl⟩
            rw [hwd] at HSg HC3 HI3 HV3 HK3
            obtain ⟨cm3, hcm3⟩ : ∃ c, cm.set (j + 1) true = c := ⟨_, rfl⟩
            rw [hcm3] at HC3 HCA3
            clear hbo hcm3 hk1 hnew hkn2
            by_cases ho : o = 0
            · subst ho
              rw [if_pos rfl, List.append_nil] at HPM
              have HPG := hide (show (M2.all ++ gs).Perm (M.all ++ [(j : Int) + 1]) from HPM.out)
              have HS1 := hide (show Came cm3 len1 (M.all ++ [(j : Int) + 1]) ∧ (M.all ++ [(j : Int) + 1]).Nodup from HCA3.out)
              have HS2 := hide (show ∀ x ∈ M.all ++ [(j : Int) + 1], 1 ≤ x ∧ x ≤ (j : Int) + 1 from fun x hx => (List.mem_append.1 hx).elim (fun h => by have := all_le HMV.out x h; omega) (fun h => by simp at h; omega))
              have HGL := hide (show (gs).length ≤ 200 from by have h1 := HPG.out.length_eq; have h2 := HAL.out; simp only [List.length_append, List.length_singleton] at h1; omega)
              have HI6 := hide HI3.out
              have HC6 := hide HC3.out
              have HV6 := hide HV3.out
              have HK6 := hide HK3.out
              have HND := hide (show (M2.all ++ gs).Nodup from HPG.out.nodup_iff.2 HS1.out.2)
              have HCQ := hide (show Came cm3 len1 (M2.all ++ gs.drop 0) from HS1.out.1.perm HPG.out.symm)
              have HIN := hide (show ∀ x ∈ gs, 1 ≤ x ∧ x ≤ (j : Int) + 1 from fun x hx => HS2.out x (HPG.out.mem_iff.1 (List.mem_append_right _ hx)))
              have hGl : gs.length ≤ 200 := HGL.out
              go_wp2
              go_loopw [4, 12] (fun _ s12 wr => ∃ (s : Nat) (cmS : List Bool), s ≤ gs.length ∧ s12 = .int .i64 s ∧ Hid (IAt wr X M2) ∧ Hid (Blk wr gc 4 (bv cmS).toArray) ∧ Hid (Came cmS len1 (M2.all ++ gs.drop s)) ∧ Hid (Vals wr [gc] A (gs.map I)) ∧ Hid (Kept [] w wr)) (fun _ s12 _ => gs.length - (intOf s12).toNat)
              case atStart => exact ⟨0, cm3, Nat.zero_le _, rfl, HI6, HC6, HCQ, HV6, HK6⟩
              case round =>
                clear HI6 HC6 HCQ HV6 HK6
                obtain ⟨s, cmS, hs, rfl, HIs, HCs, HCa, HVs, HKs⟩ := hrel
                by_cases hsG : s < gs.length
                · obtain ⟨x, hx⟩ : ∃ x, gs[s]? = some x := ⟨_, List.getElem?_eq_getElem hsG⟩
                  obtain ⟨ad2, rfl, hnb, g0⟩ := HVs.out s (I x) (by rw [List.getElem?_map, hx]; rfl)
                  unfold I at g0
                  have hxr := HIN.out x (List.mem_of_getElem? hx)
                  obtain ⟨y, rfl⟩ : ∃ y : Nat, x = (y : Int) := ⟨x.toNat, by omega⟩
                  have hdr : gs.drop s = (y : Int) :: gs.drop (s + 1) := by rw [List.drop_eq_getElem_cons hsG]; congr 1; have := (List.getElem?_eq_some_iff.1 hx).2; exact this
                  have HTK := hide (Came.take_ (by have := HCa.out; rwa [hdr] at this) (HND.out.sublist (by rw [← hdr]; exact List.Sublist.append (List.Sublist.refl _) (List.drop_sublist _ _))) y rfl (by omega))
                  have q1 : decide ((y : Int) < 1) = false := decide_eq_false (by omega)
                  have q2 : decide ((y : Int) > (len1 : Int)) = false := decide_eq_false (by omega)
                  have b0 : wr.cell? ⟨gc, y, none⟩ = some (.bool true) := by rw [HCs.out.cell]; simp [bv, HTK.out.1]
                  have f0 := HCs.out.frozen y
                  have HS := hide ((Kept.refl [gc] wr).set_ (b := gc) (.inl (by simp)) y (.bool false))
                  have HC7 := hide (show Blk (wr.setCell ⟨gc, y, none⟩ (.bool false)) gc 4 (bv (cmS.set y false)).toArray from by have := HCs.out.set_ y (.bool false); rw [List.setIfInBounds_toArray] at this; unfold bv at this ⊢; rwa [List.map_set])
                  have hym : y < m := by have := HMM.out; omega
                  clear hx hdr
                  go_wp2
                  go_roundw
                  case rel => exact ⟨s + 1, _, by omega, by go_num, hide (HIC.out _ _ _ HIs.out HS.out), HC7, hide HTK.out.2, hide (HVs.out.kept HS.out (fun i hi => hi)), hide (HTC.out _ _ HKs.out HS.out)⟩
                  case measure => simp [intOf]; omega
                · obtain rfl : s = gs.length := by omega
                  have HCE := hide (show Came cmS len1 M2.all ∧ M2.all.Nodup from by have h1 := HCa.out; rw [List.drop_of_length_le (Nat.le_refl _), List.append_nil] at h1; exact ⟨h1, (List.nodup_append.1 HND.out).1⟩)
                  go_wp2
                  go_roundw
                  case rel => exact ⟨j + 1, _, _, by omega, by go_num, HIs, HM2, HCs, HCE, HKs⟩
                  case measure => simp [intOf]; omega
            · obtain ⟨rfl, rfl, rfl⟩ := hon ho
              have ho1 : (o != 0) = true := by rw [bne_iff_ne]; exact ho
              rw [if_neg ho, List.nil_append] at HPM
              clear hon ho
              obtain ⟨G, HG⟩ : ∃ G : List Int, Hid (G = [o]) := ⟨_, hide rfl⟩
              have HOWN := hide (World.ownsRow_nil (wd.alloc (.cells #[.int .i64 o] 3)) wd.heap.size 3 1)
              have HLIT := hide (Vals.lit wd [] 3 #[.int .i64 o] (0, 0) [.int .i64 o] rfl (by simp))
              have HBL := hide (show wd.heap.size ≤ (wd.alloc (.cells #[.int .i64 o] 3)).heap.size from by simp)
              have HGL0 := hide (show gc < wd.heap.size from HC3.out.lt)
              go_wp2_with (
                with_reducible refine wpList_append_vals (o := ⟨some 133, _, _, _, _, _⟩) ?_ (.tmp 130) (.tmp 132) 29 ?_ wd.heap.size 3 (.int .i64 0) 1 8 Try.underlying29 int_info ?_ (by omega) (.slice none 0 0) 0 [] ?_ HOWN.out [] (some ⟨wd.heap.size, 0, none⟩) 1 1 [.int .i64 o] ?_ rfl HLIT.out (by simp [Value.oneCell']) (by simp only [maxLen]; omega) (by omega) HBL.out ?_
                · rfl
                · rfl
                · rfl
                · rfl
                · rfl
                intro v7 w7 hown7 hk7 hat7
                obtain ⟨A7, c7, hv7, _, hrd7⟩ := own_read hown7
                have hv8 : v7 = .slice A7 G.length c7 := by rw [HG.out]; exact hv7
                clear hv7
                subst hv8
                have HV6 := hide (show Vals w7 [gc] A7 (G.map I) from by rw [HG.out]; exact hrd7 [gc] (fun i hi => .inl (by simp at hi; subst hi; exact HGL0.out)))
                have HKA7 := hide (show Kept [] wd w7 from ((Kept.refl [] wd).alloc _).trans hk7 (by simp [Value.ownBlock]))
                clear hown7 hk7 hat7 hrd7)
              have HPG := hide (show (M2.all ++ G).Perm (M.all ++ [(j : Int) + 1]) from by rw [HG.out]; exact HPM.out)
              have HS1 := hide HCA3.out
              have HS2 := hide (show ∀ x ∈ M.all ++ [(j : Int) + 1], 1 ≤ x ∧ x ≤ (j : Int) + 1 from fun x hx => (List.mem_append.1 hx).elim (fun h => by have := all_le HMV.out x h; omega) (fun h => by simp at h; omega))
              have HGL := hide (show G.length ≤ 200 from by rw [HG.out]; simp)
              have HI6 := hide (HI3.out.keep HKA7.out)
              have HC6 := hide (HKA7.out.blk HC3.out (by simp))
              have HK6 := hide (HK3.out.trans HKA7.out (by simp))
              have HND := hide (show (M2.all ++ G).Nodup from HPG.out.nodup_iff.2 HS1.out.2)
              have HCQ := hide (show Came cm3 len1 (M2.all ++ G.drop 0) from HS1.out.1.perm HPG.out.symm)
              have HIN := hide (show ∀ x ∈ G, 1 ≤ x ∧ x ≤ (j : Int) + 1 from fun x hx => HS2.out x (HPG.out.mem_iff.1 (List.mem_append_right _ hx)))
              have hGl : G.length ≤ 200 := HGL.out
              go_wp2
              go_loopw [4, 12] (fun _ s12 wr => ∃ (s : Nat) (cmS : List Bool), s ≤ G.length ∧ s12 = .int .i64 s ∧ Hid (IAt wr X M2) ∧ Hid (Blk wr gc 4 (bv cmS).toArray) ∧ Hid (Came cmS len1 (M2.all ++ G.drop s)) ∧ Hid (Vals wr [gc] A7 (G.map I)) ∧ Hid (Kept [] w wr)) (fun _ s12 _ => G.length - (intOf s12).toNat)
              case atStart => exact ⟨0, cm3, Nat.zero_le _, rfl, HI6, HC6, HCQ, HV6, HK6⟩
              case round =>
                clear HI6 HC6 HCQ HV6 HK6
                obtain ⟨s, cmS, hs, rfl, HIs, HCs, HCa, HVs, HKs⟩ := hrel
                by_cases hsG : s < G.length
                · obtain ⟨x, hx⟩ : ∃ x, G[s]? = some x := ⟨_, List.getElem?_eq_getElem hsG⟩
                  obtain ⟨ad2, rfl, hnb, g0⟩ := HVs.out s (I x) (by rw [List.getElem?_map, hx]; rfl)
                  unfold I at g0
                  have hxr := HIN.out x (List.mem_of_getElem? hx)
                  obtain ⟨y, rfl⟩ : ∃ y : Nat, x = (y : Int) := ⟨x.toNat, by omega⟩
                  have hdr : G.drop s = (y : Int) :: G.drop (s + 1) := by rw [List.drop_eq_getElem_cons hsG]; congr 1; have := (List.getElem?_eq_some_iff.1 hx).2; exact this
                  have HTK := hide (Came.take_ (by have := HCa.out; rwa [hdr] at this) (HND.out.sublist (by rw [← hdr]; exact List.Sublist.append (List.Sublist.refl _) (List.drop_sublist _ _))) y rfl (by omega))
                  have q1 : decide ((y : Int) < 1) = false := decide_eq_false (by omega)
                  have q2 : decide ((y : Int) > (len1 : Int)) = false := decide_eq_false (by omega)
                  have b0 : wr.cell? ⟨gc, y, none⟩ = some (.bool true) := by rw [HCs.out.cell]; simp [bv, HTK.out.1]
                  have f0 := HCs.out.frozen y
                  have HS := hide ((Kept.refl [gc] wr).set_ (b := gc) (.inl (by simp)) y (.bool false))
                  have HC7 := hide (show Blk (wr.setCell ⟨gc, y, none⟩ (.bool false)) gc 4 (bv (cmS.set y false)).toArray from by have := HCs.out.set_ y (.bool false); rw [List.setIfInBounds_toArray] at this; unfold bv at this ⊢; rwa [List.map_set])
                  have hym : y < m := by have := HMM.out; omega
                  clear hx hdr
                  go_wp2
                  go_roundw
                  case rel => exact ⟨s + 1, _, by omega, by go_num, hide (HIC.out _ _ _ HIs.out HS.out), HC7, hide HTK.out.2, hide (HVs.out.kept HS.out (fun i hi => hi)), hide (HTC.out _ _ HKs.out HS.out)⟩
                  case measure => simp [intOf]; omega
                · obtain rfl : s = G.length := by omega
                  have HCE := hide (show Came cmS len1 M2.all ∧ M2.all.Nodup from by have h1 := HCa.out; rw [List.drop_of_length_le (Nat.le_refl _), List.append_nil] at h1; exact ⟨h1, (List.nodup_append.1 HND.out).1⟩)
                  go_wp2
                  go_roundw
                  case rel => exact ⟨j + 1, _, _, by omega, by go_num, HIs, HM2, HCs, HCE, HKs⟩
                  case measure => simp [intOf]; omega
        · have ho0 : o = 0 := hkn2 hnew
          subst ho0
          rw [if_neg hnew, if_pos rfl, List.append_nil, List.append_nil] at HPM
          have d1 : (kd == 1) = false := beq_eq_false_iff_ne.2 (fun e => hnew (.inl e))
          have d5 : (kd == 5) = false := beq_eq_false_iff_ne.2 (fun e => hnew (.inr e))
          clear hnew hon hkn2
          have HPG := hide (show (M2.all ++ gs).Perm M.all from HPM.out)
          have HS1 := hide (show Came cm len1 M.all ∧ (M.all).Nodup from HCA.out)
          have HS2 := hide (show ∀ x ∈ M.all, 1 ≤ x ∧ x ≤ (j : Int) + 1 from fun x hx => by have := all_le HMV.out x hx; omega)
          have HGL := hide (show (gs).length ≤ 200 from by have h1 := HPG.out.length_eq; have h2 := HAL.out; simp only [List.length_append, List.length_singleton] at h1; omega)
          have HI6 := hide HI2.out
          have HC6 := hide HC2.out
          have HV6 := hide HV.out
          have HK6 := hide HK2.out
          have HND := hide (show (M2.all ++ gs).Nodup from HPG.out.nodup_iff.2 HS1.out.2)
          have HCQ := hide (show Came cm len1 (M2.all ++ gs.drop 0) from HS1.out.1.perm HPG.out.symm)
          have HIN := hide (show ∀ x ∈ gs, 1 ≤ x ∧ x ≤ (j : Int) + 1 from fun x hx => HS2.out x (HPG.out.mem_iff.1 (List.mem_append_right _ hx)))
          have hGl : gs.length ≤ 200 := HGL.out
          go_wp2
          go_loopw [4, 12] (fun _ s12 wr => ∃ (s : Nat) (cmS : List Bool), s ≤ gs.length ∧ s12 = .int .i64 s ∧ Hid (IAt wr X M2) ∧ Hid (Blk wr gc 4 (bv cmS).toArray) ∧ Hid (Came cmS len1 (M2.all ++ gs.drop s)) ∧ Hid (Vals wr [gc] A (gs.map I)) ∧ Hid (Kept [] w wr)) (fun _ s12 _ => gs.length - (intOf s12).toNat)
          case atStart => exact ⟨0, cm, Nat.zero_le _, rfl, HI6, HC6, HCQ, HV6, HK6⟩
          case round =>
            clear HI6 HC6 HCQ HV6 HK6
            obtain ⟨s, cmS, hs, rfl, HIs, HCs, HCa, HVs, HKs⟩ := hrel
            by_cases hsG : s < gs.length
            · obtain ⟨x, hx⟩ : ∃ x, gs[s]? = some x := ⟨_, List.getElem?_eq_getElem hsG⟩
              obtain ⟨ad2, rfl, hnb, g0⟩ := HVs.out s (I x) (by rw [List.getElem?_map, hx]; rfl)
              unfold I at g0
              have hxr := HIN.out x (List.mem_of_getElem? hx)
              obtain ⟨y, rfl⟩ : ∃ y : Nat, x = (y : Int) := ⟨x.toNat, by omega⟩
              have hdr : gs.drop s = (y : Int) :: gs.drop (s + 1) := by rw [List.drop_eq_getElem_cons hsG]; congr 1; have := (List.getElem?_eq_some_iff.1 hx).2; exact this
              have HTK := hide (Came.take_ (by have := HCa.out; rwa [hdr] at this) (HND.out.sublist (by rw [← hdr]; exact List.Sublist.append (List.Sublist.refl _) (List.drop_sublist _ _))) y rfl (by omega))
              have q1 : decide ((y : Int) < 1) = false := decide_eq_false (by omega)
              have q2 : decide ((y : Int) > (len1 : Int)) = false := decide_eq_false (by omega)
              have b0 : wr.cell? ⟨gc, y, none⟩ = some (.bool true) := by rw [HCs.out.cell]; simp [bv, HTK.out.1]
              have f0 := HCs.out.frozen y
              have HS := hide ((Kept.refl [gc] wr).set_ (b := gc) (.inl (by simp)) y (.bool false))
              have HC7 := hide (show Blk (wr.setCell ⟨gc, y, none⟩ (.bool false)) gc 4 (bv (cmS.set y false)).toArray from by have := HCs.out.set_ y (.bool false); rw [List.setIfInBounds_toArray] at this; unfold bv at this ⊢; rwa [List.map_set])
              have hym : y < m := by have := HMM.out; omega
              clear hx hdr
              go_wp2
              go_roundw
              case rel => exact ⟨s + 1, _, by omega, by go_num, hide (HIC.out _ _ _ HIs.out HS.out), HC7, hide HTK.out.2, hide (HVs.out.kept HS.out (fun i hi => hi)), hide (HTC.out _ _ HKs.out HS.out)⟩
              case measure => simp [intOf]; omega
            · obtain rfl : s = gs.length := by omega
              have HCE := hide (show Came cmS len1 M2.all ∧ M2.all.Nodup from by have h1 := HCa.out; rw [List.drop_of_length_le (Nat.le_refl _), List.append_nil] at h1; exact ⟨h1, (List.nodup_append.1 HND.out).1⟩)
              go_wp2
              go_roundw
              case rel => exact ⟨j + 1, _, _, by omega, by go_num, HIs, HM2, HCs, HCE, HKs⟩
              case measure => simp [intOf]; omega
    · obtain rfl : j = len1 := by omega
      have HOA := hide (told_all HMV.out.1)
      go_wp2_with fail
      refine (refs_any HIM.out 300 (by decide)).mono ?_
      rintro e w1 ⟨v1, rfl, ho1, hk1⟩
      obtain ⟨A1, c1, rfl, _, hrd⟩ := own_read ho1
      have HV1 := hide (hrd [gc] (fun i hi => .inl (by simp at hi; subst hi; exact HCM.out.lt)))
      have HC1 := hide (hk1.blk HCM.out (by simp))
      have HK1 := hide (HKR.out.trans hk1 (by simp))
      have HRL := hide (refsL_length HIM.out)
      have HLE := hide (all_le HMV.out)
      obtain ⟨R, hR⟩ : ∃ R, refsL M = R := ⟨_, rfl⟩
      rw [hR] at HV1 HRL HOA
      simp only [hR]
      have HND := hide (show (R.map (·.2)).Nodup from HOA.out.nodup_iff.2 HCA.out.2)
      have HCQ := hide (show Came cm j ((R.drop 0).map (·.2)) from HCA.out.1.perm HOA.out.symm)
      have HXR := hide (show ∀ x ∈ R, 1 ≤ x.2 ∧ x.2 ≤ (j : Int) from fun x hx => HLE.out x.2 (HOA.out.mem_iff.1 (List.mem_map_of_mem hx)))
      have hRl : R.length ≤ 128 := HRL.out
      clear ho1 hk1 hrd hR HIM HCM HCA HKR HMV HOA
      go_wp2
      go_loopw [4, 14] (fun _ s14 wr => ∃ (s : Nat) (cmS : List Bool), s ≤ R.length ∧ s14 = .int .i64 s ∧ Hid (Blk wr gc 4 (bv cmS).toArray) ∧ Hid (Came cmS j ((R.drop s).map (·.2))) ∧ Hid (Vals wr [gc] A1 (cellsR R)) ∧ Hid (Kept [] w wr)) (fun _ s14 _ => R.length - (intOf s14).toNat)
      case atStart => exact ⟨0, cm, Nat.zero_le _, rfl, HC1, HCQ, HV1, HK1⟩
      case round =>
        clear HC1 HCQ HV1 HK1
        obtain ⟨s, cmS, hs, rfl, HCs, HCa, HVs, HKs⟩ := hrel
        by_cases hsR : s < R.length
        · obtain ⟨x, hx⟩ : ∃ x, R[s]? = some x := ⟨_, List.getElem?_eq_getElem hsR⟩
          obtain ⟨ad2, rfl, hnb, p0, p1⟩ := refs_at HVs.out hx
          have hxr := HXR.out x (List.mem_of_getElem? hx)
          obtain ⟨y, hy⟩ : ∃ y : Nat, x.2 = (y : Int) := ⟨x.2.toNat, by omega⟩
          have hdr : (R.drop s).map (·.2) = x.2 :: (R.drop (s + 1)).map (·.2) := by rw [List.drop_eq_getElem_cons hsR, List.map_cons]; congr 2; exact (List.getElem?_eq_some_iff.1 hx).2
          have HTK := hide (Came.take_ (T := []) (by have := HCa.out; rw [hdr] at this; exact this) (by rw [List.nil_append, ← hdr]; exact HND.out.sublist ((List.drop_sublist _ _).map _)) y hy (by omega))
          rw [hy] at p1 hxr
          have q1 : decide ((y : Int) < 1) = false := decide_eq_false (by omega)
          have q2 : decide ((y : Int) > (j : Int)) = false := decide_eq_false (by omega)
          have b0 : wr.cell? ⟨gc, y, none⟩ = some (.bool true) := by rw [HCs.out.cell]; simp [bv, HTK.out.1]
          have f0 := HCs.out.frozen y
          have HS := hide ((Kept.refl [gc] wr).set_ (b := gc) (.inl (by simp)) y (.bool false))
          have HC7 := hide (show Blk (wr.setCell ⟨gc, y, none⟩ (.bool false)) gc 4 (bv (cmS.set y false)).toArray from by have := HCs.out.set_ y (.bool false); rw [List.setIfInBounds_toArray] at this; unfold bv at this ⊢; rwa [List.map_set])
          have hym : y < m := by have := HMM.out; omega
          clear hx hdr hy
          go_wp2
          go_roundw
          case rel => exact ⟨s + 1, _, by omega, by go_num, HC7, hide (by have := HTK.out.2; rwa [List.nil_append] at this), hide (HVs.out.kept HS.out (fun i hi => hi)), hide (HTC.out _ _ HKs.out HS.out)⟩
          case measure => simp [intOf]; omega
        · obtain rfl : s = R.length := by omega
          have HCE := hide (show Came cmS j [] from by have h1 := HCa.out; rwa [List.drop_of_length_le (Nat.le_refl _), List.map_nil] at h1)
          clear HVs HCa
          go_wp2
          go_loopw [4, 15] (fun _ s15 wl => ∃ s : Nat, s ≤ m ∧ s15 = .int .i64 s ∧ wl = wr) (fun _ s15 _ => m - (intOf s15).toNat)
          case atStart => exact ⟨0, Nat.zero_le _, rfl, rfl⟩
          case round =>
            obtain ⟨s, hs2, rfl, rfl⟩ := hrel
            by_cases hsm : s < m
            · have b0 : wr.cell? ⟨gc, s, none⟩ = some (.bool false) := by
                have h1 := HCE.out.2 s (by have := HMM.out; omega)
                have h2 : s < cmS.length := by have := HCE.out.1; have := HMM.out; omega
                rw [List.getD_eq_getElem?_getD, List.getElem?_eq_getElem h2] at h1
                rw [HCs.out.cell]
                simp [bv, h2]
                simpa using h1
              go_wp2
              go_roundw
              case rel => exact ⟨s + 1, by omega, by go_num, trivial⟩
              case measure => simp [intOf]; omega
            · obtain rfl : s = m := by omega
              go_wp2_with fail
              refine (awake_any _).mono ?_
              rintro e w9 ⟨rfl, hk9⟩
              have HK9 := hide ((HKs.out.trans hk9 (by simp)).below (by simp))
              clear hk9
              go_wp2
              go_ret
              exact ⟨rfl, HK9.out⟩

/-! ### the row's step, as the guide's skeleton has it -/
set_option maxRecDepth 100000 in
theorem lifted (os : Os) (started : os.Started) (H : Type) (enc : TypeId × Value → H) :
    ReturnsInHanded {} Try.checked os 4 .any (Rows.imageGoesSpec.pre6 enc Try.prog Try.f4 Rows.imageGoesRow.domain false) (Rows.imageGoesSpec.post enc Try.prog Try.f4 false true false false) := by
  refine returnsInHanded_of_change (C := Try.checked) own started (by kernel_rfl) Try.func4
    (ChangeSpec.witness6 (enc := enc) (C := Try.checked) false ⟨#[], #[.int .i64 0, .slice none 0 0], []⟩ 8 (by kernel_rfl) (by kernel_rfl) (by kernel_rfl) (by kernel_rfl)) ?_
  intro W base args ds gs before hval0 hW hcnd _
  have hval : ∀ (j : Nat) t v, Try.f4.params[j]? = some t → args[j]? = some v → Value.okWide Try.prog W .any base t v := hval0
  have hW' := hW
  obtain ⟨p, q, hA0, hV, rfl, hfz, hnd⟩ := hW
  have hA : DataW.TrodAll enc Try.prog W 0 (fun _ => true) true Try.f4.params.toList args.toList ds p := hA0
  rw [Try.params4] at hA hval
  obtain ⟨v0, vs0, d0, ds0, p0, q0, hargs, rfl, rfl, h0, r0⟩ := trodAll_cons hA
  obtain ⟨v1, vs1, d1, ds1, p1, q1, rfl, rfl, rfl, h1, r1⟩ := trodAll_cons r0
  obtain ⟨rfl, rfl, rfl⟩ := trodAll_nil r1
  obtain rfl : args = #[v0, v1] := by cases args; simp_all
  obtain ⟨rfl, rfl⟩ := trodVars_none hV
  obtain ⟨a0, rfl, rfl, rfl, w0⟩ := open_int Try.underlying3 (hval 0 3 v0 rfl rfl) h0
  obtain ⟨a1, len1, cap1, rfl⟩ := okWide_slice Try.underlying45 (hval 1 45 v1 rfl rfl)
  have k1 := h1
  have lt1 : ∀ x ∈ p1, x.block < W.heap.size := by obtain ⟨m, hm⟩ := k1; exact DataW.trod_lt m _ _ _ hm
  obtain ⟨l1, e1, w1, b1⟩ : ∃ l : List (List Int), l.length = len1 ∧ Slab W 3 a1 l ∧ len1 ≤ cap1 ∧ cap1 ≤ maxLen := by
    obtain ⟨fuel, hf⟩ := h1
    exact slab_of Try.underlying45 (by kernel_rfl) (fun _ cs x hl h => struct_cells Try.underlying3 Try.underlying49 (by kernel_rfl) (by simp) (by kernel_rfl) _ cs x hl h) hf
  clear hA0 hval0
  refine (walk a0 a1 len1 cap1 l1 W w0 w1 e1 b1).mono fun e W' ⟨he, bel⟩ => ?_
  subst he
  exact ⟨_, rfl, _, _, _, [], _, [], hW', trodAll_mk1 (shut_bool Try.underlying4 _), (trodAll_cons_mk (shut_int Try.underlying3 w0) (trodAll_cons_mk (Below.trod laidOut (by kernel_rfl) (of_decide_eq_true (by kernel_rfl)) k1 bel lt1) trodAll_mk0)), rfl, bel.frame _, fun h => by cases h⟩

theorem over : Rows.imageGoesRow.holds Try.pinned (OpenSpec.ofChange Rows.imageGoesSpec) :=
  OpenClaim.holds_of_wide 4 Try.f4 rfl rfl rfl rfl rfl rfl rfl ⟨rfl, rfl, rfl, rfl, rfl⟩ rfl rfl rfl rfl rfl (by kernel_rfl) Try.func4 (by kernel_rfl)
    (of_decide_eq_true (by kernel_rfl)) (by unfold Func.isWrapper; first | (rw [if_pos (by decide +kernel)]; kernel_rfl) | (rw [if_neg (by decide +kernel)]; exact ⟨rfl, rfl⟩))
    (fun os started H enc _ => lifted os started H enc)

/-- The statement. -/
theorem proved : Rows.ImageGoesSaid := over
#print axioms proved
end Go.Proofs.Ytfeepmahipecpaa.imageGoes

