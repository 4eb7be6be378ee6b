/-
  The given statement RecordTornSaid is proved: whatever the arguments are, the law returns true and leaves its input as it was. No conditions.
-/
import Derived.Test.YtepooidgmaokeaaRecordAwake
import Derived.Test.YtepooidgmaokeaaRecordMixed
import Derived.Test.YtepooidgmaokeaaRecordMadeW
import Derived.Test.YtepooidgmaokeaaOpen
import Derived.WalkKit
import Derived.ProofKit
import Derived.OpenShut
import Derived.ShutString
import Derived.ChangeOld
import Derived.Below
namespace Go.Proofs.Ytepooidgmaokeaa.recordTorn
open Go.ChangeShapes Go.WideShapes Go.ChangeAt Go.RowKit
open Go.ChangeMaps (open_string shut_string)
open Go.Proofs.Ytepooidgmaokeaa.mem Go.Proofs.Ytepooidgmaokeaa.base Go.Proofs.Ytepooidgmaokeaa.row Go.Proofs.Ytepooidgmaokeaa.rowBack Go.Proofs.Ytepooidgmaokeaa.fill Go.Proofs.Ytepooidgmaokeaa.crc Go.Proofs.Ytepooidgmaokeaa.crcMath Go.Proofs.Ytepooidgmaokeaa.super Go.Proofs.Ytepooidgmaokeaa.item Go.Proofs.Ytepooidgmaokeaa.record
set_option linter.unusedVariables false

theorem own : ownKnob Try.prog.godebug = none := by kernel_rfl
theorem laidOut : laidOutB Try.prog = true := by kernel_rfl

theorem walk_out (A : Option Addr) (n c : Nat) (a1 a2 a3 : Int) (w : World) (h : n < 1 ∨ 1 ≤ n ∧ 6 < n) :
    Calls Try.prog 7 #[.slice A n c, .int .i64 a1, .int .i64 a2, .int .i64 a3] w fun e w' => e = .returned (.bool true) ∧ Below w.heap.size w w' := by
  rcases h with h | ⟨h1, h2⟩
  · have h' : (n : Int) < 1 := by omega
    clear h
    go_enter Try.func7, Try.ntmps7
    go_wp2_with fail
    refine (awake_any _).mono ?_
    rintro e W2 ⟨rfl, hk⟩
    have HK2 := hide hk
    clear hk
    go_wp2
    go_ret
    exact ⟨rfl, HK2.out.below (by simp)⟩
  · have h' : ¬ (n : Int) < 1 := by omega
    have h'' : (6 : Int) < n := by omega
    clear h1 h2
    go_enter Try.func7, Try.ntmps7
    go_wp2_with fail
    refine (awake_any _).mono ?_
    rintro e W2 ⟨rfl, hk⟩
    have HK2 := hide hk
    clear hk
    go_wp2
    go_ret
    exact ⟨rfl, HK2.out.below (by simp)⟩

theorem good_snoc {a b X s : List UInt8} {j : Nat} (hX : X.length = 64 * j) (h : ∀ i, i < j → (X.drop (64 * i)).take 64 = (a.drop (64 * i)).take 64 ∨ (X.drop (64 * i)).take 64 = (b.drop (64 * i)).take 64)
    (hs : s = (a.drop (64 * j)).take 64 ∨ s = (b.drop (64 * j)).take 64) (hl : s.length = 64) :
    (X ++ s).length = 64 * (j + 1) ∧ ∀ i, i < j + 1 → ((X ++ s).drop (64 * i)).take 64 = (a.drop (64 * i)).take 64 ∨ ((X ++ s).drop (64 * i)).take 64 = (b.drop (64 * i)).take 64 := by
  refine ⟨by rw [List.length_append, hX, hl]; omega, fun i hi => ?_⟩
  by_cases hij : i = j
  · subst hij
    rw [List.drop_left' hX, List.take_of_length_le (by omega)]
    exact hs
  · rw [List.drop_append_of_le_length (by omega), List.take_append_of_le_length (by rw [List.length_drop]; omega)]
    exact h i (by omega)

set_option maxRecDepth 100000 in
set_option maxHeartbeats 4000000 in
theorem walk_in (A : Option Addr) (n c : Nat) (fill other sec : Int) (ks : List Int) (w : World) (hv : Vals w [] A (ks.map I)) (hl : ks.length = n) (h1 : 1 ≤ n) (h6 : n ≤ 6) :
    Calls Try.prog 7 #[.slice A n c, .int .i64 fill, .int .i64 other, .int .i64 sec] w fun e w' => e = .returned (.bool true) ∧ Below w.heap.size w w' := by
  have hokR : (made ks 5 1 fill).ok := made_ok ks 5 1 fill (by rw [hl]; exact h1) (by rw [hl]; exact h6)
  have hokQ : (made ks 5 2 other).ok := made_ok ks 5 2 other (by rw [hl]; exact h1) (by rw [hl]; exact h6)
  have hlen : (made ks 5 1 fill).bks.length = (made ks 5 2 other).bks.length := madeBks_len ks fill other _
  have hmR := fun w hv => made_any A n c ks 5 1 fill w hv hl h6
  have hmQ := fun w hv => made_any A n c ks 5 2 other w hv hl h6
  obtain ⟨R, hR⟩ : ∃ R, made ks 5 1 fill = R := ⟨_, rfl⟩
  obtain ⟨Q, hQ⟩ : ∃ Q, made ks 5 2 other = Q := ⟨_, rfl⟩
  rw [hR] at hokR hlen
  rw [hQ] at hokQ hlen
  simp only [hR] at hmR
  simp only [hQ] at hmQ
  have HV := hide hv
  have HMR := hide hmR
  have HMQ := hide hmQ
  have HOR := hide hokR
  have HOQ := hide hokQ
  have HLEN := hide hlen
  obtain ⟨k, hk0⟩ : ∃ k, R.bks.length = k := ⟨_, rfl⟩
  have hk6 : k ≤ 6 := by rw [← hk0]; exact hokR.few
  have HKR := hide hk0
  have HKQ : Hid (Q.bks.length = k) := hide (by rw [← hlen, hk0])
  obtain ⟨N, hN⟩ : ∃ N, 64 * (1 + k) = N := ⟨_, rfl⟩
  have HBR : Hid (R.bytes.length = N) := hide (by rw [R.bytes_len hokR, hk0, hN])
  have HBQ : Hid (Q.bytes.length = N) := hide (by rw [Q.bytes_len hokQ, ← hlen, hk0, hN])
  have HNN := hide hN
  have hN3 : 64 ≤ N := by omega
  have hN4 : N ≤ 448 := by omega
  have h1' : ¬ (n : Int) < 1 := by omega
  have h6' : ¬ (6 : Int) < n := by omega
  clear hv hmR hmQ hokR hokQ hR hQ hk0 hN hlen h1 h6 hl
  go_enter Try.func7, Try.ntmps7
  go_wp2_with fail
  refine (HMR.out _ HV.out).mono ?_
  rintro e w1 ⟨L1, m1, lc1, P1, k1, pc1, rfl, hrc, hk⟩
  have HV1 := hide (HV.out.kept hk (by simp))
  have HR1 := hide hrc
  have HK1 := hide hk
  clear hrc hk HMR HV
  go_wp2_with fail
  refine (HMQ.out _ HV1.out).mono ?_
  rintro e w2 ⟨L2, m2, lc2, P2, k2, pc2, rfl, hrc, hk⟩
  have HR2 := hide (HR1.out.kept hk)
  have HQ2 := hide hrc
  have HK2 := hide (HK1.out.trans hk (by simp))
  clear hrc hk HMQ HV1 HR1 HK1
  obtain ⟨g, hg⟩ : ∃ g, w2.heap.size = g := ⟨_, rfl⟩
  have bg := Blk.new w2 25 #[.int .i64 R.m, .int .i64 R.l, .int .i64 R.p, .slice L1 m1 lc1, .slice P1 k1 pc1]
  have bh := Blk.new (w2.alloc (.cells #[.int .i64 R.m, .int .i64 R.l, .int .i64 R.p, .slice L1 m1 lc1, .slice P1 k1 pc1] 25)) 25 #[.int .i64 Q.m, .int .i64 Q.l, .int .i64 Q.p, .slice L2 m2 lc2, .slice P2 k2 pc2]
  rw [show (w2.alloc (.cells #[.int .i64 R.m, .int .i64 R.l, .int .i64 R.p, .slice L1 m1 lc1, .slice P1 k1 pc1] 25)).heap.size = g + 1 by rw [← hg]; simp] at bh
  rw [hg] at bg
  have k4 := ((Kept.refl [] w2).alloc (.cells #[.int .i64 R.m, .int .i64 R.l, .int .i64 R.p, .slice L1 m1 lc1, .slice P1 k1 pc1] 25)).alloc (.cells #[.int .i64 Q.m, .int .i64 Q.l, .int .i64 Q.p, .slice L2 m2 lc2, .slice P2 k2 pc2] 25)
  have HG4 := hide (bg.alloc (.cells #[.int .i64 Q.m, .int .i64 Q.l, .int .i64 Q.p, .slice L2 m2 lc2, .slice P2 k2 pc2] 25))
  have HH4 := hide bh
  obtain rfl : k1 = k := by rw [← HR2.out.hk]; exact HKR.out
  obtain rfl : k2 = k1 := by rw [← HQ2.out.hk]; exact HKQ.out
  have hm1 : m1 ≤ 6 := by rw [← HR2.out.hn]; exact HOR.out.2.2.2.1.2
  have hm2 : m2 ≤ 6 := by rw [← HQ2.out.hn]; exact HOQ.out.2.2.2.1.2
  have HR4 := hide (HR2.out.kept k4)
  have HQ4 := hide (HQ2.out.kept k4)
  have HK4 := hide (HK2.out.trans k4 (by simp))
  clear bg bh k4 HR2 HQ2 HK2
  go_wp2_with fail
  refine (encode_yes R L1 P1 m1 lc1 k2 pc1 _ HR4.out HOR.out).mono ?_
  rintro e w5 ⟨P5, p5, rfl, hnb, hk⟩
  rw [HNN.out]
  obtain ⟨b5, rfl, _, harr⟩ := hnb.pos (by rw [HBR.out]; omega)
  have hle5 := harr.len
  rw [HBR.out] at hle5
  have HA5 := hide harr
  have HG5 := hide (hk.blk HG4.out (by simp))
  have HH5 := hide (hk.blk HH4.out (by simp))
  have HR5 := hide (HR4.out.kept hk)
  have HQ5 := hide (HQ4.out.kept hk)
  have HK5 := hide (HK4.out.trans hk (by simp))
  obtain ⟨c0, c1, c2, c3, c4⟩ := cell5 HH5.out
  obtain ⟨y, hy⟩ : ∃ y : Nat, R.sum = y := ⟨_, rfl⟩
  rw [hy]
  clear hk hnb harr hy HG4 HH4 HR4 HQ4 HK4
  go_wp2_with fail
  refine (encode_yes Q L2 P2 m2 lc2 k2 pc2 _ HQ5.out HOQ.out).mono ?_
  rintro e w6 ⟨P6, p6, rfl, hnb, hk⟩
  rw [HNN.out]
  obtain ⟨b6, rfl, _, harr⟩ := hnb.pos (by rw [HBQ.out]; omega)
  have hle6 := harr.len
  rw [HBQ.out] at hle6
  have HB6 := hide harr
  have HA6 := hide (HA5.out.kept hk (by simp))
  have HG6 := hide (hk.blk HG5.out (by simp))
  have HH6 := hide (hk.blk HH5.out (by simp))
  have HR6 := hide (HR5.out.kept hk)
  have HQ6 := hide (HQ5.out.kept hk)
  have HK6 := hide (HK5.out.trans hk (by simp))
  obtain ⟨z, hz⟩ : ∃ z : Nat, Q.sum = z := ⟨_, rfl⟩
  rw [hz]
  have hz2 : ¬ ((N : Int) < 64) := by omega
  clear hk hnb harr hz HG5 HH5 HR5 HQ5 HK5 HA5 c0 c1 c2 c3 c4 hg
  obtain ⟨q, hq⟩ : ∃ q, w6.heap.size = q := ⟨_, rfl⟩
  have HOWN0 : Hid (w6.ownsRow q 5 1 (.slice none 0 0) 0 ([].map B)) := hide ⟨rfl, .inl ⟨rfl, rfl⟩⟩
  have HQS := hide hq
  clear hq
  go_wp2
  go_loopw [17, 18] (fun x i wr => ∃ (j c : Nat) (P : Option Addr) (X : List UInt8), j ≤ 1 + k2 ∧ x = .slice P (64 * j) c ∧ i = .int .i64 j ∧ Hid (wr.ownsRow q 5 1 (.slice P (64 * j) c) (64 * j) (X.map B)) ∧ Hid (X.length = 64 * j) ∧ Hid (∀ i, i < j → (X.drop (64 * i)).take 64 = (R.bytes.drop (64 * i)).take 64 ∨ (X.drop (64 * i)).take 64 = (Q.bytes.drop (64 * i)).take 64) ∧ Hid (Kept [] w6 wr)) (fun x i wr => 1 + k2 - (intOf i).toNat)
  case atStart => exact ⟨0, 0, none, [], Nat.zero_le _, rfl, rfl, HOWN0, hide rfl, hide (fun i hi => absurd hi (Nat.not_lt_zero _)), hide (Kept.refl _ _)⟩
  case round =>
    obtain ⟨j, c7, P7, X, hj, rfl, rfl, HOW, HXL, HXS, HK⟩ := hrel
    have hN6 : (N : Int).tdiv 64 = ((1 + k2 : Nat) : Int) := by have := HNN.out; rw [Int.tdiv_eq_ediv_of_nonneg (by omega)]; omega
    by_cases hlt : j < 1 + k2
    · have hjN : 64 * j + 64 ≤ N := by have := HNN.out; omega
      have hsz : q ≤ wr.heap.size := by rw [← HQS.out]; exact HK.out.size
      obtain ⟨sa, hsa⟩ : ∃ s, (R.bytes.drop (64 * j)).take 64 = s := ⟨_, rfl⟩
      obtain ⟨sb, hsb⟩ : ∃ s, (Q.bytes.drop (64 * j)).take 64 = s := ⟨_, rfl⟩
      have HLA : Hid (sa.length = 64) := hide (by rw [← hsa, List.length_take, List.length_drop, HBR.out]; omega)
      have HLB : Hid (sb.length = 64) := hide (by rw [← hsb, List.length_take, List.length_drop, HBQ.out]; omega)
      have HVA : Hid (Vals wr [] (some ⟨b5, 64 * j, none⟩) (sa.map B)) := hide (by
        have := ((HA6.out.kept HK.out (by simp)).vals (S := []) (by simp)).cut (64 * j) 64
        rw [← List.map_drop, ← List.map_take, hsa, show Option.map (fun x : Addr => x.add (64 * j)) (some ⟨b5, 0, none⟩) = some ⟨b5, 64 * j, none⟩ by simp only [Option.map_some, Addr.add]; split <;> simp_all] at this
        exact this)
      have HVB : Hid (Vals wr [] (some ⟨b6, 64 * j, none⟩) (sb.map B)) := hide (by
        have := ((HB6.out.kept HK.out (by simp)).vals (S := []) (by simp)).cut (64 * j) 64
        rw [← List.map_drop, ← List.map_take, hsb, show Option.map (fun x : Addr => x.add (64 * j)) (some ⟨b6, 0, none⟩) = some ⟨b6, 64 * j, none⟩ by simp only [Option.map_some, Addr.add]; split <;> simp_all] at this
        exact this)
      have HGA := hide (good_snoc HXL.out HXS.out (.inl hsa.symm) HLA.out)
      have HGB := hide (good_snoc HXL.out HXS.out (.inr hsb.symm) HLB.out)
      clear hsa hsb
      have hp5 : ¬ p5 = 64 * j := by omega
      have hp6 : ¬ p6 = 64 * j := by omega
      go_wp2_with (first
        | (at_builtin; refine wpList_append_vals rfl (.tmp 79) (.tmp 86) 28 rfl q 5 (.int .u8 0) 1 1 Try.underlying28 info8 rfl (by omega) (.slice P7 (64 * j) c7) (64 * j) (X.map B) rfl HOW.out [] (some ⟨b5, 64 * j, none⟩) 64 (p5 - 64 * j) (sa.map B) (by simp [Act.eval]) (by rw [List.length_map, HLA.out]) HVA.out (oneCell_B _) (by simp only [maxLen]; omega) (by omega) hsz ?_; intro v9 w9 hown9 hk9 hat9)
        | (at_builtin; refine wpList_append_vals rfl (.tmp 88) (.tmp 95) 28 rfl q 5 (.int .u8 0) 1 1 Try.underlying28 info8 rfl (by omega) (.slice P7 (64 * j) c7) (64 * j) (X.map B) rfl HOW.out [] (some ⟨b6, 64 * j, none⟩) 64 (p6 - 64 * j) (sb.map B) (by simp [Act.eval]) (by rw [List.length_map, HLB.out]) HVB.out (oneCell_B _) (by simp only [maxLen]; omega) (by omega) hsz ?_; intro v9 w9 hown9 hk9 hat9))
      · have HKN := hide (HK.out.trans hk9 (fun i hi => .inr (by have := (own_blk HOW.out i hi).1; rw [HQS.out]; exact this)))
        rw [show X.map B ++ sa.map B = (X ++ sa).map B from (List.map_append ..).symm] at hown9
        obtain ⟨P9, c9, rfl⟩ := own_form hown9
        rw [show 64 * j + 64 = 64 * (j + 1) by omega] at hown9
        have HOW9 := hide hown9
        have HXL9 := hide HGA.out.1
        have HXS9 := hide HGA.out.2
        clear hown9 hk9 hat9
        go_wp2
        go_roundw
        case rel => exact ⟨j + 1, c9, P9, _, by omega, by rw [show 64 * (j + 1) = 64 * j + 64 by omega], by go_num, HOW9, HXL9, HXS9, HKN⟩
        case measure => simp [intOf]; omega
      · have HKN := hide (HK.out.trans hk9 (fun i hi => .inr (by have := (own_blk HOW.out i hi).1; rw [HQS.out]; exact this)))
        rw [show X.map B ++ sb.map B = (X ++ sb).map B from (List.map_append ..).symm] at hown9
        obtain ⟨P9, c9, rfl⟩ := own_form hown9
        rw [show 64 * j + 64 = 64 * (j + 1) by omega] at hown9
        have HOW9 := hide hown9
        have HXL9 := hide HGB.out.1
        have HXS9 := hide HGB.out.2
        clear hown9 hk9 hat9
        go_wp2
        go_roundw
        case rel => exact ⟨j + 1, c9, P9, _, by omega, by rw [show 64 * (j + 1) = 64 * j + 64 by omega], by go_num, HOW9, HXL9, HXS9, HKN⟩
        case measure => simp [intOf]; omega
    · have hjk : j = 1 + k2 := by omega
      have hjN : 64 * j = N := by rw [hjk]; exact HNN.out
      have HTORN := hide (torn HOR.out HOQ.out HLEN.out X (by rw [HXL.out, HKR.out, hjk]) (fun i hi => HXS.out i (by rw [HKR.out] at hi; omega)))
      obtain ⟨A8, c8, he, _, hA8, hv8, _⟩ := base.own_slice HOW.out
      injection he with he1 he2 he3
      subst he1 he3
      have HVX := hide (hv8 [] (by simp))
      have HLX : Hid (X.length = N) := hide (by rw [HXL.out, hjN])
      have HG7 := hide (HK.out.blk HG6.out (by simp))
      have HH7 := hide (HK.out.blk HH6.out (by simp))
      have HR7 := hide (HR6.out.kept HK.out)
      have HQ7 := hide (HQ6.out.kept HK.out)
      have HK7 := hide (HK6.out.trans HK.out (by simp))
      clear hv8 he2 HOW HXL HXS hlt hj HG6 HH6 HR6 HQ6 HK6 HK HA6 HB6
      go_wp2_with fail
      try rw [hjN]
      try rw [HNN.out]
      refine (record.decode_any P7 N c7 X _ HVX.out HLX.out hA8 (by omega)).mono ?_
      rintro e w8 ⟨L8, m8, lc8, P8, k8, pc8, rfl, hrc, hk⟩
      rcases HTORN.out with hz | ⟨Y, hY, hd, hYk, hYb, hYs⟩
      · rw [hz]
        dsimp only
        have HKB := hide ((HK7.out.trans hk (by simp)).alloc (.cells #[.int .i64 Rc.zero.m, .int .i64 Rc.zero.l, .int .i64 Rc.zero.p, .slice L8 m8 lc8, .slice P8 k8 pc8] 25))
        clear hrc hk hz HTORN
        go_wp2_with fail
        refine (awake_any _).mono ?_
        rintro e wz ⟨rfl, hk⟩
        have HKZ := hide (HKB.out.trans hk (by simp))
        clear hk
        go_wp2
        go_ret
        exact ⟨rfl, HKZ.out.below (by simp)⟩
      · rw [hd] at hrc ⊢
        dsimp only at hrc ⊢
        obtain rfl : k8 = k2 := by rw [← hrc.hk, hYk]; exact HKR.out
        have hm8 : m8 ≤ 6 := by rw [← hrc.hn]; exact hY.2.2.2.1.2
        obtain ⟨s, hs⟩ : ∃ s, w8.heap.size = s := ⟨_, rfl⟩
        have bs := Blk.new w8 25 #[.int .i64 Y.m, .int .i64 Y.l, .int .i64 Y.p, .slice L8 m8 lc8, .slice P8 k8 pc8]
        rw [hs] at bs
        have k9 := (Kept.refl [] w8).alloc (.cells #[.int .i64 Y.m, .int .i64 Y.l, .int .i64 Y.p, .slice L8 m8 lc8, .slice P8 k8 pc8] 25)
        have HS9 := hide bs
        have HY9 := hide (hrc.kept k9)
        have HG9 := hide (k9.blk (hk.blk HG7.out (by simp)) (by simp))
        have HH9 := hide (k9.blk (hk.blk HH7.out (by simp)) (by simp))
        have HR9 := hide ((HR7.out.kept hk).kept k9)
        have HQ9 := hide ((HQ7.out.kept hk).kept k9)
        have HK9 := hide ((HK7.out.trans hk (by simp)).trans k9 (by simp))
        have HYO := hide hY
        have HYB := hide hYb
        have HYS := hide hYs
        clear bs k9 hrc hk hY hYb hYs hd hYk HTORN HG7 HH7 HR7 HQ7 HK7 HVX
        obtain ⟨c0, c1, c2, c3, c4⟩ := cell5 HS9.out
        obtain ⟨d0, d1, d2, d3, d4⟩ := cell5 HG9.out
        go_wp2_with fail
        refine (record_any Y R L8 P8 L1 P1 m8 lc8 k8 pc8 m1 lc1 k8 pc1 _ HY9.out HR9.out (by omega) (by omega)).mono ?_
        rintro e w10 ⟨rfl, hk⟩
        have HS10 := hide (hk.blk HS9.out (by simp))
        have HG10 := hide (hk.blk HG9.out (by simp))
        have HH10 := hide (hk.blk HH9.out (by simp))
        have HY10 := hide (HY9.out.kept hk)
        have HR10 := hide (HR9.out.kept hk)
        have HQ10 := hide (HQ9.out.kept hk)
        have HK10 := hide (HK9.out.trans hk (by simp))
        clear hk c0 c1 c2 c3 c4 d0 d1 d2 d3 d4 HS9 HG9 HH9 HY9 HR9 HQ9 HK9 hs
        by_cases q1 : Y = R
        · rw [decide_eq_true q1]
          clear q1
          go_wp2_with fail
          refine (awake_any _).mono ?_
          rintro e wz ⟨rfl, hk⟩
          have HKZ := hide (HK10.out.trans hk (by simp))
          clear hk
          go_wp2
          go_ret
          exact ⟨rfl, HKZ.out.below (by simp)⟩
        · rw [decide_eq_false q1]
          clear q1
          obtain ⟨c0, c1, c2, c3, c4⟩ := cell5 HS10.out
          obtain ⟨d0, d1, d2, d3, d4⟩ := cell5 HH10.out
          go_wp2_with fail
          refine (record_any Y Q L8 P8 L2 P2 m8 lc8 k8 pc8 m2 lc2 k8 pc2 _ HY10.out HQ10.out (by omega) (by omega)).mono ?_
          rintro e w11 ⟨rfl, hk⟩
          have HS11 := hide (hk.blk HS10.out (by simp))
          have HG11 := hide (hk.blk HG10.out (by simp))
          have HH11 := hide (hk.blk HH10.out (by simp))
          have HY11 := hide (HY10.out.kept hk)
          have HR11 := hide (HR10.out.kept hk)
          have HQ11 := hide (HQ10.out.kept hk)
          have HK11 := hide (HK10.out.trans hk (by simp))
          clear hk c0 c1 c2 c3 c4 d0 d1 d2 d3 d4 HS10 HG10 HH10 HY10 HR10 HQ10 HK10
          by_cases q2 : Y = Q
          · rw [decide_eq_true q2]
            clear q2
            go_wp2_with fail
            refine (awake_any _).mono ?_
            rintro e wz ⟨rfl, hk⟩
            have HKZ := hide (HK11.out.trans hk (by simp))
            clear hk
            go_wp2
            go_ret
            exact ⟨rfl, HKZ.out.below (by simp)⟩
          · rw [decide_eq_false q2]
            clear q2
            obtain ⟨c0, c1, c2, c3, c4⟩ := cell5 HS11.out
            obtain ⟨d0, d1, d2, d3, d4⟩ := cell5 HG11.out
            obtain ⟨e0, e1, e2, e3, e4⟩ := cell5 HH11.out
            go_wp2_with fail
            refine (mixed_any Y R Q L8 P8 L1 P1 L2 P2 m8 lc8 pc8 m1 lc1 pc1 m2 lc2 pc2 k8 _ HY11.out HR11.out HQ11.out HYO.out HOR.out HOQ.out HYB.out HYS.out).mono ?_
            rintro e w12 ⟨rfl, hk⟩
            have HK12 := hide (HK11.out.trans hk (by simp))
            clear hk c0 c1 c2 c3 c4 d0 d1 d2 d3 d4 e0 e1 e2 e3 e4 HS11 HG11 HH11 HY11 HR11 HQ11 HK11
            go_wp2_with fail
            refine (awake_any _).mono ?_
            rintro e wz ⟨rfl, hk⟩
            have HKZ := hide (HK12.out.trans hk (by simp))
            clear hk
            go_wp2
            go_ret
            exact ⟨rfl, HKZ.out.below (by simp)⟩

theorem walk (a0 : Option Addr) (len0 cap0 : Nat) (z0 : List Int) (a1 : Int) (a2 : Int) (a3 : Int) (w : World) (w0 : IsRow .i64 w a0 len0 cap0 z0) (w1 : (Lit.int .i64 a1).wf = true) (w2 : (Lit.int .i64 a2).wf = true) (w3 : (Lit.int .i64 a3).wf = true) :
    Calls Try.prog 7 #[.slice a0 len0 cap0, .int .i64 a1, .int .i64 a2, .int .i64 a3] w fun e w' => e = .returned (.bool true) ∧ Below w.heap.size w w' := by
  obtain ⟨ks, hl, hnc, hv, hA⟩ := w0.ints
  by_cases h1 : 1 ≤ len0
  · by_cases h6 : len0 ≤ 6
    · exact walk_in a0 len0 cap0 a1 a2 a3 ks w hv hl h1 h6
    · exact walk_out a0 len0 cap0 a1 a2 a3 w (.inr ⟨h1, by omega⟩)
  · exact walk_out a0 len0 cap0 a1 a2 a3 w (.inl (by omega))

/-! ### the row's step, as the guide's skeleton has it -/
set_option maxRecDepth 100000 in
theorem lifted (os : Os) (started : os.Started) (H : Type) (enc : TypeId × Value → H) :
    ReturnsInHanded {} Try.checked os 7 .any (Rows.recordTornSpec.pre6 enc Try.prog Try.f7 Rows.recordTornRow.domain false) (Rows.recordTornSpec.post enc Try.prog Try.f7 false true false false) := by
  refine returnsInHanded_of_change (C := Try.checked) own started (by kernel_rfl) Try.func7
    (ChangeSpec.witness6 (enc := enc) (C := Try.checked) false ⟨#[], #[.slice none 0 0, .int .i64 0, .int .i64 0, .int .i64 0], []⟩ 8 (by kernel_rfl) (by kernel_rfl) (by kernel_rfl) (by kernel_rfl)) ?_
  intro W base args ds gs before hval0 hW hcnd _
  have hval : ∀ (j : Nat) t v, Try.f7.params[j]? = some t → args[j]? = some v → Value.okWide Try.prog W .any base t v := hval0
  have hW' := hW
  obtain ⟨p, q, hA0, hV, rfl, hfz, hnd⟩ := hW
  have hA : DataW.TrodAll enc Try.prog W 0 (fun _ => true) true Try.f7.params.toList args.toList ds p := hA0
  rw [Try.params7] at hA hval
  obtain ⟨v0, vs0, d0, ds0, p0, q0, hargs, rfl, rfl, h0, r0⟩ := trodAll_cons hA
  obtain ⟨v1, vs1, d1, ds1, p1, q1, rfl, rfl, rfl, h1, r1⟩ := trodAll_cons r0
  obtain ⟨v2, vs2, d2, ds2, p2, q2, rfl, rfl, rfl, h2, r2⟩ := trodAll_cons r1
  obtain ⟨v3, vs3, d3, ds3, p3, q3, rfl, rfl, rfl, h3, r3⟩ := trodAll_cons r2
  obtain ⟨rfl, rfl, rfl⟩ := trodAll_nil r3
  obtain rfl : args = #[v0, v1, v2, v3] := by cases args; simp_all
  obtain ⟨rfl, rfl⟩ := trodVars_none hV
  obtain ⟨a0, len0, cap0, rfl⟩ := okWide_slice Try.underlying43 (hval 0 43 v0 rfl rfl)
  have k0 := h0
  have lt0 : ∀ x ∈ p0, x.block < W.heap.size := by obtain ⟨m, hm⟩ := k0; exact DataW.trod_lt m _ _ _ hm
  obtain ⟨z0, w0⟩ : ∃ zs, IsRow .i64 W a0 len0 cap0 zs := by
    obtain ⟨fuel, hf⟩ := h0
    rcases open_ints Try.underlying43 Try.underlying3 (by kernel_rfl) hf with ⟨hcs, _⟩ | ⟨x, l, c, zs, hcs, _, hl, hm, hz, _, hcell, hwz⟩
    · simp [Value.cells] at hcs
      obtain ⟨rfl, rfl, rfl⟩ := hcs
      exact ⟨[], .inl ⟨rfl, rfl, rfl, rfl⟩⟩
    · simp [Value.cells] at hcs
      obtain ⟨rfl, rfl, rfl⟩ := hcs
      exact ⟨zs, .inr ⟨_, rfl, hl, hm, by simpa using hz, hcell, hwz⟩⟩
  obtain ⟨a1, rfl, rfl, rfl, w1⟩ := open_int Try.underlying3 (hval 1 3 v1 rfl rfl) h1
  obtain ⟨a2, rfl, rfl, rfl, w2⟩ := open_int Try.underlying3 (hval 2 3 v2 rfl rfl) h2
  obtain ⟨a3, rfl, rfl, rfl, w3⟩ := open_int Try.underlying3 (hval 3 3 v3 rfl rfl) h3
  clear hA0 hval0
  refine (walk a0 len0 cap0 z0 a1 a2 a3 W w0 w1 w2 w3).mono fun e W' ⟨he, bel⟩ => ?_
  subst he
  exact ⟨_, rfl, _, _, _, [], _, [], hW', trodAll_mk1 (shut_bool Try.underlying4 _), (trodAll_cons_mk (Below.trod laidOut (by kernel_rfl) (of_decide_eq_true (by kernel_rfl)) k0 bel lt0) (trodAll_cons_mk (shut_int Try.underlying3 w1) (trodAll_cons_mk (shut_int Try.underlying3 w2) (trodAll_cons_mk (shut_int Try.underlying3 w3) trodAll_mk0)))), rfl, bel.frame _, fun h => by cases h⟩

theorem over : Rows.recordTornRow.holds Try.pinned (OpenSpec.ofChange Rows.recordTornSpec) :=
  OpenClaim.holds_of_wide 7 Try.f7 rfl rfl rfl rfl rfl rfl rfl ⟨rfl, rfl, rfl, rfl, rfl⟩ rfl rfl rfl rfl rfl (by kernel_rfl) Try.func7 (by kernel_rfl)
    (of_decide_eq_true (by kernel_rfl)) (by unfold Func.isWrapper; first | (rw [if_pos (by decide +kernel)]; kernel_rfl) | (rw [if_neg (by decide +kernel)]; exact ⟨rfl, rfl⟩))
    (fun os started H enc _ => lifted os started H enc)

/-- The statement. -/
theorem proved : Rows.RecordTornSaid := over
#print axioms proved
end Go.Proofs.Ytepooidgmaokeaa.recordTorn

