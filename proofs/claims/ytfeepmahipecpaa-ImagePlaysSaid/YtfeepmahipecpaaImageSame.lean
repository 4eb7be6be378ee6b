/- keelsonlaw16's same. -/
import Derived.Test.YtfeepmahipecpaaImagePlaysAt
import Derived.Test.YtfeepmahipecpaaPageAlike
namespace Go.Proofs.Ytfeepmahipecpaa.im
set_option linter.unusedSimpArgs false
set_option linter.unusedVariables false
open Go.RowKit Go.Proofs.Ytfeepmahipecpaa.mem Go.Proofs.Ytfeepmahipecpaa.base Go.Proofs.Ytfeepmahipecpaa.pd Go.Proofs.Ytfeepmahipecpaa.owns
theorem cellsN_map (l : List Nat) : cellsN l = (l.map fun x : Nat => (x : Int)).map I := by unfold cellsN; rw [List.map_map]; rfl
section
variable {w w' : World} {X : Ib} {p V U D E c : Nat} {M M' : Im}
set_option maxRecDepth 100000 in
set_option maxHeartbeats 4000000 in
theorem same_any (h : IAt w X M) (hr : RI w p V U D E c M) (hg : Gd M) :
    Calls Try.prog 26 #[.pointer (some ⟨X.m, 0, none⟩), .pointer (some ⟨p, 0, none⟩)] w fun e w' => e = .returned (.bool true) ∧ Kept [] w w' := by
  have H := hide h
  have HR := hide hr
  have HG := hide hg
  have hs := hr.small
  have hpg := hr.pg
  have HDL := hide hr.dlen
  have HLE := hide hr.len
  obtain ⟨n, hn⟩ : ∃ n, M.b.l.length = n := ⟨_, rfl⟩
  obtain ⟨md, hm⟩ : ∃ m, M.b.d.length = m := ⟨_, rfl⟩
  have HN := hide hn
  have HM := hide hm
  rw [hn] at hs hpg
  rw [hm] at hpg
  have hm9 : md ≤ 5 := by omega
  have HPG := hide hpg
  have HDT := hide (show ∀ ov, (M.tb ov).d.length = md from fun ov => by cases ov; exact hm; exact HDL.out.trans hm)
  clear h hr hg hpg hn hm
  go_enter Try.func26, Try.ntmps26
  go_wp2
  go_loopw [4, 5, 6] (fun _ i _ wr => ∃ k : Nat, k ≤ 2 ∧ i = .int .i64 k ∧ Hid (Kept [] w wr)) (fun _ i _ _ => 2 - (intOf i).toNat)
  case atStart => exact ⟨0, by omega, rfl, hide (Kept.refl _ _)⟩
  case round =>
    obtain ⟨k, hk, rfl, HK⟩ := hrel
    by_cases hlt : k < 2
    · obtain ⟨ov, hov⟩ : ∃ ov, ((k : Int) == 1) = ov := ⟨_, rfl⟩
      go_wp2_with fail
      refine (dirty_any (H.out.keep HK.out) ov 9 (by decide)).mono ?_
      rintro e w1 ⟨v1, rfl, ho1, hk1⟩
      obtain ⟨A1, c1, rfl, _, hv1⟩ := own_read ho1
      have HK1 := hide (HK.out.trans hk1 (by simp))
      have HV1 := hide (hv1 [] (by simp))
      clear ho1 hk1 hv1
      go_wp2_with fail
      refine (rdirty_any (HR.out.keep HK1.out) ov).mono ?_
      rintro e w2 ⟨v2, rfl, ho2, hk2⟩
      obtain ⟨A2, c2, rfl, _, hv2⟩ := own_read ho2
      have HK2 := hide (HK1.out.trans hk2 (by simp))
      have HV2 := hide (hv2 [] (by simp))
      have HV12 := hide (HV1.out.kept hk2 (by simp))
      have HDL5 := hide (dirt_length H.out ov)
      clear ho2 hk2 hv2
      go_wp2_with fail
      refine (pg.ints_any A1 A2 _ _ c1 c2 ((M.dirt ov).map fun x : Nat => (x : Int)) ((M.dirt ov).map fun x : Nat => (x : Int)) _ (by simp) (by simp) (by rw [← cellsN_map]; exact HV12.out) (by rw [← cellsN_map]; exact HV2.out) (by have := HDL5.out; omega)).mono ?_
      rintro e w3 ⟨rfl, hk3⟩
      rw [show decide (((M.dirt ov).map fun x : Nat => (x : Int)) = ((M.dirt ov).map fun x : Nat => (x : Int))) = true from decide_eq_true rfl]
      have HK3 := hide (HK2.out.trans hk3 (by simp))
      clear hk3 HK1 HK2 HV1 HV2 HV12 HDL5
      go_wp2
      go_loopw [4, 6] (fun _ q wr => ∃ j : Nat, j ≤ md + 2 ∧ q = .int .i64 ((j : Int) - 1) ∧ Hid (Kept [] w wr)) (fun _ q _ => md + 2 - ((intOf q) + 1).toNat)
      case atStart => exact ⟨0, by omega, rfl, HK3⟩
      case round =>
        clear HK3
        obtain ⟨j, hj, rfl, HKj⟩ := hrel
        have HRj := hide (HR.out.keep HKj.out)
        obtain ⟨_, _, q2, _⟩ := HRj.out.cells
        rw [HM.out] at q2
        by_cases hjl : j < md + 2
        · have hd : decide ((j : Int) - 1 ≤ (md : Int)) = true := decide_eq_true (by omega)
          have hjw : IntKind.i64.wrap ((j : Int) - 1 + 1) = (j : Int) := by rw [IntWalk.i64_in _ (by omega)]; omega
          by_cases hin : 1 ≤ j ∧ j ≤ md
          · obtain ⟨r, hr⟩ : ∃ r : Nat, (j : Int) - 1 = (r : Int) := ⟨j - 1, by omega⟩
            obtain ⟨b, hb⟩ : ∃ b, r * 15 = b := ⟨_, rfl⟩
            obtain ⟨m, hm⟩ : ∃ m, min (b + 15) M.b.l.length - b = m := ⟨_, rfl⟩
            have hr1 : r + 1 = j := by omega
            have hm15 : m ≤ 15 := by omega
            have hrl : r < md := by omega
            have HP1 := hide (ipage_yes (H.out.keep HKj.out) ov r (by rw [HDT.out]; exact hrl) b m hb hm)
            have HP2 := hide (fun W (k : Kept [] w W) => rpage_any (HR.out.keep k) ov r (by rw [HM.out]; exact hrl) b m hb hm)
            rw [hr] at hd hjw ⊢
            clear hb hm
            go_wp2_with fail
            refine HP1.out.mono ?_
            rintro e w4 ⟨v4, rfl, ho4, hk4⟩
            obtain ⟨A4, c4, rfl, _, hv4⟩ := own_read ho4
            have hl4 := ho4.1
            rw [Nat.mul_one] at hl4
            have HK4 := hide (HKj.out.trans hk4 (by simp))
            have HV4 := hide (hv4 [] (by simp))
            have HL4 := hide (show (((M.tb ov).l.drop b).take m).length = m from by rwa [List.length_map] at hl4)
            clear ho4 hk4 hv4 hl4 HP1
            go_wp2_with fail
            refine (HP2.out _ HK4.out).mono ?_
            rintro e w5 ⟨v5, rfl, ho5, hk5⟩
            obtain ⟨A5, c5, rfl, _, hv5⟩ := own_read ho5
            have HK5 := hide (HK4.out.trans hk5 (by simp))
            have HV5 := hide (hv5 [] (by simp))
            have HV45 := hide (HV4.out.kept hk5 (by simp))
            clear ho5 hk5 hv5 HP2
            go_wp2_with fail
            refine (pg.ints_any A4 A5 m m c4 c5 (((M.tb ov).l.drop b).take m) (((M.tb ov).l.drop b).take m) _ HL4.out HL4.out HV45.out HV5.out (by omega)).mono ?_
            rintro e w6 ⟨rfl, hk6⟩
            rw [show decide ((((M.tb ov).l.drop b).take m) = (((M.tb ov).l.drop b).take m)) = true from decide_eq_true rfl]
            have HK6 := hide (HK5.out.trans hk6 (by simp))
            clear hk6
            go_wp2
            go_roundw
            case rel => exact ⟨j + 1, by omega, by congr 1; omega, HK6⟩
            case measure => simp [intOf]; omega
          · have HP1 := hide (ipage_no (H.out.keep HKj.out) ov ((j : Int) - 1) (by rw [HDT.out]; omega))
            have HP2 := hide (rpage_no HRj.out ov ((j : Int) - 1) (by rw [HM.out]; omega))
            go_wp2_with fail
            refine HP1.out.mono ?_
            rintro e w4 ⟨rfl, rfl⟩
            go_wp2_with fail
            refine HP2.out.mono ?_
            rintro e w4 ⟨rfl, rfl⟩
            go_wp2_with fail
            refine (pg.ints_any none none 0 0 0 0 [] [] _ rfl rfl (Vals.nil _ _ _) (Vals.nil _ _ _) (by omega)).mono ?_
            rintro e w6 ⟨rfl, hk6⟩
            rw [show decide (([] : List Int) = []) = true from rfl]
            have HK6 := hide (HKj.out.trans hk6 (by simp))
            clear hk6
            go_wp2
            go_roundw
            case rel => exact ⟨j + 1, by omega, by congr 1; omega, HK6⟩
            case measure => simp [intOf]; omega
        · have hd : decide ((j : Int) - 1 ≤ (md : Int)) = false := decide_eq_false (by omega)
          go_wp2
          go_roundw
          case rel => exact ⟨k + 1, by omega, by go_num, HKj⟩
          case measure => simp [intOf]; omega
    · have hd2 : decide ((k : Int) < 2) = false := decide_eq_false (by omega)
      go_wp2
      go_loopw [4, 7, 8, 9, 10, 11, 12, 13] (fun _ i _ _ _ _ _ _ wl => ∃ j : Nat, j ≤ n ∧ i = .int .i64 j ∧ wl = wr) (fun _ i _ _ _ _ _ _ _ => n - (intOf i).toNat)
      case atStart => exact ⟨0, Nat.zero_le _, rfl, rfl⟩
      case round =>
        obtain ⟨j, hj, rfl, rfl⟩ := hrel
        have HRj := hide (HR.out.keep HK.out)
        have HIj := hide (H.out.keep HK.out)
        obtain ⟨q0, _, _, _⟩ := HRj.out.cells
        rw [HN.out] at q0
        by_cases hjl : j < n
        · have hjb : j < M.b.l.length := by rw [HN.out]; exact hjl
          have c0 := HRj.out.base.cell hjb
          have HF1 := hide (ref_yes HIj.out j hjb)
          have HF2 := hide (look_yes HIj.out j hjb)
          have HF3 := hide (rlook_yes HRj.out HG.out j hjb)
          obtain ⟨x, hx⟩ : ∃ x, M.b.l.getD j 0 = x := ⟨_, rfl⟩
          obtain ⟨y, hy⟩ : ∃ y, (if M.o.l.getD j 0 = -1 then M.b.l.getD j 0 else M.o.l.getD j 0) = y := ⟨_, rfl⟩
          rw [hy] at HF2 HF3
          rw [hx] at HF1 c0
          have e1 : (x != x) = false := by simp
          have e2 : (y != y) = false := by simp
          clear hx hy hjb
          go_wp2_with fail
          refine HF1.out.mono ?_
          rintro e w' ⟨rfl, rfl⟩
          go_wp2_with fail
          refine HF2.out.mono ?_
          rintro e w' ⟨rfl, rfl⟩
          go_wp2_with fail
          refine HF3.out.mono ?_
          rintro e w' ⟨rfl, rfl⟩
          go_wp2
          go_roundw
          case rel => exact ⟨j + 1, by omega, by go_num, trivial⟩
          case measure => simp [intOf]; omega
        · obtain rfl : j = n := by omega
          go_wp2_with fail
          refine (pending_any HIj.out).mono ?_
          rintro e w1 ⟨rfl, hk1⟩
          have HK1 := hide (HK.out.trans hk1 (by simp))
          clear hk1
          go_wp2_with fail
          refine (rpending_any (HR.out.keep HK1.out) HG.out).mono ?_
          rintro e w' ⟨rfl, rfl⟩
          obtain ⟨q, hq⟩ : ∃ q, (pendL M.o.l).length = q := ⟨_, rfl⟩
          rw [hq]
          clear hq
          go_wp2_with fail
          refine (refs_any (H.out.keep HK1.out) 200 (by decide)).mono ?_
          rintro e w2 ⟨v2, rfl, ho2, hk2⟩
          obtain ⟨A2, c2, rfl, _, hv2⟩ := own_read ho2
          have HK2 := hide (HK1.out.trans hk2 (by simp))
          have HV2 := hide (hv2 [] (by simp))
          clear ho2 hk2 hv2
          go_wp2_with fail
          refine (rrefs_any (HR.out.keep HK2.out)).mono ?_
          rintro e w3 ⟨v3, rfl, ho3, hk3⟩
          obtain ⟨A3, c3, rfl, _, hv3⟩ := own_read ho3
          have HK3 := hide (HK2.out.trans hk3 (by simp))
          have HV3 := hide (hv3 [] (by simp))
          have HV23 := hide (HV2.out.kept hk3 (by simp))
          have HL := hide (refsL_length H.out)
          clear ho3 hk3 hv3
          go_wp2_with fail
          refine (like_any A2 A3 _ c2 c3 (refsL M) _ rfl HV23.out HV3.out (by have := HL.out; omega)).mono ?_
          rintro e w4 ⟨rfl, hk4⟩
          have HK4 := hide (HK3.out.trans hk4 (by simp))
          clear hk4
          go_wp2
          go_ret
          exact ⟨rfl, HK4.out⟩
end
end Go.Proofs.Ytfeepmahipecpaa.im
