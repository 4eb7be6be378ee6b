/- The laws' own example. (Written by tools/genrgawake.py.) -/
import Derived.Test.YthacnlpdodlggaaRegionMade
import Derived.Test.YthacnlpdodlggaaRegionChoose
import Derived.Test.YthacnlpdodlggaaRegionAlike
namespace Go.Proofs.Ythacnlpdodlggaa.rg
set_option linter.unusedSimpArgs false
open Go.RowKit Go.Proofs.Ythacnlpdodlggaa.mem Go.Proofs.Ythacnlpdodlggaa.base Go.Proofs.Ythacnlpdodlggaa.row

theorem decode_short {D : Dv} (hD : D.ok) (bs : List UInt8) (h : bs.length ≠ 64 * D.r) : decode D bs = (Rg.zero, 2) :=
  decode_no D bs fun S hS e => h (by rw [← e]; exact Rg.bytes_len hD hS)
theorem choose_second {D : Dv} {R : Rg} (a b : List UInt8) (ha : decode D a = (Rg.zero, 2)) (hb : decode D b = (R, 0)) (hg : 1 ≤ R.g) : choose D a b = (R, 1, 0) := by
  unfold choose
  rw [ha, hb]
  dsimp only
  rw [if_pos (show R.g > Rg.zero.g by show R.g > 0; omega)]
theorem choose_first {D : Dv} {R : Rg} (a b : List UInt8) (ha : decode D a = (R, 0)) (hb : decode D b = (Rg.zero, 2)) (hg : 1 ≤ R.g) : choose D a b = (R, 0, 0) := by
  unfold choose
  rw [ha, hb]
  dsimp only
  rw [if_neg (show ¬ Rg.zero.g > R.g by show ¬ 0 > R.g; omega), if_pos (by omega)]
theorem choose_none {D : Dv} (a b : List UInt8) (ha : decode D a = (Rg.zero, 2)) (hb : decode D b = (Rg.zero, 2)) : choose D a b = (Rg.zero, 0, 2) := by
  unfold choose
  rw [ha, hb]
  dsimp only
  rw [if_neg (by decide), if_neg (by decide)]
theorem choose_both {D : Dv} {R T : Rg} (a b : List UInt8) (ha : decode D a = (R, 0)) (hb : decode D b = (T, 0)) (hg : 1 ≤ R.g) : choose D a b = if T.g > R.g then (T, 1, 0) else (R, 0, 0) := by
  unfold choose
  rw [ha, hb]
  dsimp only
  by_cases h : T.g > R.g
  · rw [if_pos h, if_pos h]
  · rw [if_neg h, if_neg h, if_pos (by omega)]

set_option maxRecDepth 100000 in
set_option maxHeartbeats 2000000 in
theorem awake_any (w : World) : Calls Try.prog 7 #[] w fun e w' => e = .returned (.bool true) ∧ Kept [] w w' := by
  obtain ⟨D, hd⟩ : ∃ D, dvOf 1 0 0 = D := ⟨_, rfl⟩
  have HD : Hid D.ok := hide (by rw [← hd]; exact dvOf_ok 1 0 0)
  have HR2 : Hid (D.r = 2) := hide (by rw [← hd]; rfl)
  have HDD := hide hd
  clear hd
  go_enter Try.func7, Try.ntmps7
  go_wp2_with fail
  refine (kept_any 1 0 0 _).mono ?_
  rintro e w1 ⟨G, rfl, hg, hG, hk⟩
  rw [HDD.out] at hg ⊢
  have HG_0 := hide (hg)
  have HK_0 := hide (hk)
  clear hg hk
  obtain ⟨w2, hw2⟩ : ∃ w2, w1.alloc (.cells #[.int .i64 D.b, .int .i64 (D.n : Int), .int .i64 D.z] 31) = w2 := ⟨_, rfl⟩
  have hkw2 : Kept [] w1 w2 := by rw [← hw2]; exact (Kept.refl [] w1).alloc _
  have hbw2 : Blk w2 w1.heap.size 31 #[.int .i64 D.b, .int .i64 (D.n : Int), .int .i64 D.z] := by rw [← hw2]; exact Blk.new w1 _ _
  obtain ⟨cq, hcq⟩ : ∃ cq, w1.heap.size = cq := ⟨_, rfl⟩
  rw [hcq] at hbw2
  have HG_1 := hide (HG_0.out.kept hkw2)
  have HK_1 := hide (HK_0.out.trans hkw2 (by simp))
  clear HG_0 HK_0
  have HQ_1 := hide (hbw2)
  clear hkw2 hbw2
  go_wp2_with fail
  refine (made_any 1 0 0 (some ⟨w2.heap.size, 0, none⟩) [1, 2, 3] 3 3 5 _ (Vals.lit w2 [] _ _ _ ([1, 2, 3].map I) rfl (by simp)) rfl).mono ?_
  rintro e w3 ⟨R, X, rfl, hgood, hXs, hin, hk⟩
  rw [HDD.out] at hgood
  have HGOOD := hide hgood
  have HMAY := hide ((R.may_iff D).2 hgood)
  have hi := hin [] (by simp)
  have hk' := ((Kept.refl [] w2).alloc (.cells #[.int .i64 1, .int .i64 2, .int .i64 3] 3)).trans hk (by simp)
  have hkx : Kept [] w2 w3 := (Kept.refl [] w2).alloc _ |>.trans hk (by simp)
  clear hw2
  have HG_2 := hide (HG_1.out.kept hkx)
  have HK_2 := hide (HK_1.out.trans hkx (by simp))
  clear HG_1 HK_1 HQ_1
  have HI_2 := hide (hi)
  clear hi hin hk hk' hkx hgood
  obtain ⟨w4, hw4⟩ : ∃ w4, w3.alloc (.cells (R.cells X) 28) = w4 := ⟨_, rfl⟩
  have hkw4 : Kept [] w3 w4 := by rw [← hw4]; exact (Kept.refl [] w3).alloc _
  have hbw4 : Blk w4 w3.heap.size 28 (R.cells X) := by rw [← hw4]; exact Blk.new w3 _ _
  obtain ⟨s, hs⟩ : ∃ s, w3.heap.size = s := ⟨_, rfl⟩
  rw [hs] at hbw4
  have HG_3 := hide (HG_2.out.kept hkw4)
  have HK_3 := hide (HK_2.out.trans hkw4 (by simp))
  have HI_3 := hide (HI_2.out.kept hkw4 (by simp))
  clear HG_2 HK_2 HI_2
  have HS_3 := hide (hbw4)
  clear hkw4 hbw4
  unfold Rg.cells at hw4
  unfold Rg.val
  obtain ⟨kc0, kc1, kc2, kc3, kc4, kc5, kc6, kc7, kc8, kc9, kc10, kc11, kc12, kc13⟩ := cell14 HS_3.out
  go_wp2_with fail
  refine (encode_yes G D R X _ HG_3.out HI_3.out hXs HMAY.out).mono ?_
  rintro e w5 ⟨A5, c5, rfl, hn, hk⟩
  rw [HR2.out]
  rw [show 64 * 2 = 128 from rfl]
  have hbl : (R.bytes D).length = 128 := by rw [Rg.bytes_len HD.out HGOOD.out, HR2.out]
  have HBL := hide hbl
  have hA := hn.nil0
  have HA := hide hA
  obtain ⟨b5, hb5, _, ha5⟩ := hn.pos (by rw [hbl]; omega)
  subst hb5
  have hv5 := hn.vals (S := []) (by simp)
  clear kc0 kc1 kc2 kc3 kc4 kc5 kc6 kc7 kc8 kc9 kc10 kc11 kc12 kc13 hw4
  have HG_4 := hide (HG_3.out.kept hk)
  have HK_4 := hide (HK_3.out.trans hk (by simp))
  have HI_4 := hide (HI_3.out.kept hk (by simp))
  have HS_4 := hide (hk.blk HS_3.out (by simp))
  clear HG_3 HK_3 HI_3 HS_3
  have HV_4 := hide (hv5)
  have HB_4 := hide (ha5)
  clear hk hn hv5 ha5 hbl hA
  go_wp2_with fail
  refine (decode_far G D (some ⟨b5, 0, none⟩) 128 c5 (R.bytes D) _ HG_4.out HV_4.out HBL.out HA.out (by omega)).mono ?_
  rintro e w6 ⟨Y, rfl, hYs, hin, hk⟩
  rw [decode_bytes HD.out HGOOD.out] at hin ⊢
  dsimp only at hin ⊢
  have hi := hin [] (by simp)
  have HG_5 := hide (HG_4.out.kept hk)
  have HK_5 := hide (HK_4.out.trans hk (by simp))
  have HI_5 := hide (HI_4.out.kept hk (by simp))
  have HS_5 := hide (hk.blk HS_4.out (by simp))
  have HV_5 := hide (HV_4.out.kept hk (by simp))
  have HB_5 := hide (HB_4.out.kept hk (by simp))
  clear HG_4 HK_4 HI_4 HS_4 HV_4 HB_4
  have HIY_5 := hide (hi)
  clear hk hin hi
  obtain ⟨w7, hw7⟩ : ∃ w7, w6.alloc (.cells (R.cells Y) 28) = w7 := ⟨_, rfl⟩
  have hkw7 : Kept [] w6 w7 := by rw [← hw7]; exact (Kept.refl [] w6).alloc _
  have hbw7 : Blk w7 w6.heap.size 28 (R.cells Y) := by rw [← hw7]; exact Blk.new w6 _ _
  obtain ⟨xs, hxs⟩ : ∃ xs, w6.heap.size = xs := ⟨_, rfl⟩
  rw [hxs] at hbw7
  have HG_6 := hide (HG_5.out.kept hkw7)
  have HK_6 := hide (HK_5.out.trans hkw7 (by simp))
  have HI_6 := hide (HI_5.out.kept hkw7 (by simp))
  have HS_6 := hide (hkw7.blk HS_5.out (by simp))
  have HV_6 := hide (HV_5.out.kept hkw7 (by simp))
  have HB_6 := hide (HB_5.out.kept hkw7 (by simp))
  have HIY_6 := hide (HIY_5.out.kept hkw7 (by simp))
  clear HG_5 HK_5 HI_5 HS_5 HV_5 HB_5 HIY_5
  have HX_6 := hide (hbw7)
  clear hkw7 hbw7
  unfold Rg.cells at hw7
  unfold Rg.val
  go_wp2_with fail
  refine (choose_any G D none (some ⟨b5, 0, none⟩) 0 128 0 c5 [] (R.bytes D) _ HG_6.out (Vals.nil _ _ _) rfl (by simp) (by omega) HV_6.out HBL.out HA.out (by omega)).mono ?_
  rintro e w8 ⟨Z, rfl, hZs, hin, hk⟩
  rw [choose_second [] (R.bytes D) (decode_short HD.out [] (by rw [HR2.out]; simp)) (decode_bytes HD.out HGOOD.out) HGOOD.out.g.1] at hin ⊢
  dsimp only at hin ⊢
  have hi := hin [] (by simp)
  clear hw7
  have HG_7 := hide (HG_6.out.kept hk)
  have HK_7 := hide (HK_6.out.trans hk (by simp))
  have HI_7 := hide (HI_6.out.kept hk (by simp))
  have HS_7 := hide (hk.blk HS_6.out (by simp))
  have HV_7 := hide (HV_6.out.kept hk (by simp))
  have HB_7 := hide (HB_6.out.kept hk (by simp))
  have HIY_7 := hide (HIY_6.out.kept hk (by simp))
  have HX_7 := hide (hk.blk HX_6.out (by simp))
  clear HG_6 HK_6 HI_6 HS_6 HV_6 HB_6 HIY_6 HX_6
  have HIZ_7 := hide (hi)
  clear hk hin hi
  obtain ⟨w9, hw9⟩ : ∃ w9, w8.alloc (.cells (R.cells Z) 28) = w9 := ⟨_, rfl⟩
  have hkw9 : Kept [] w8 w9 := by rw [← hw9]; exact (Kept.refl [] w8).alloc _
  have hbw9 : Blk w9 w8.heap.size 28 (R.cells Z) := by rw [← hw9]; exact Blk.new w8 _ _
  obtain ⟨ys, hys⟩ : ∃ ys, w8.heap.size = ys := ⟨_, rfl⟩
  rw [hys] at hbw9
  have HG_8 := hide (HG_7.out.kept hkw9)
  have HK_8 := hide (HK_7.out.trans hkw9 (by simp))
  have HI_8 := hide (HI_7.out.kept hkw9 (by simp))
  have HS_8 := hide (hkw9.blk HS_7.out (by simp))
  have HV_8 := hide (HV_7.out.kept hkw9 (by simp))
  have HB_8 := hide (HB_7.out.kept hkw9 (by simp))
  have HIY_8 := hide (HIY_7.out.kept hkw9 (by simp))
  have HX_8 := hide (hkw9.blk HX_7.out (by simp))
  have HIZ_8 := hide (HIZ_7.out.kept hkw9 (by simp))
  clear HG_7 HK_7 HI_7 HS_7 HV_7 HB_7 HIY_7 HX_7 HIZ_7
  have HY_8 := hide (hbw9)
  clear hkw9 hbw9
  unfold Rg.cells at hw9
  unfold Rg.val
  obtain ⟨kc0, kc1, kc2, kc3, kc4, kc5, kc6, kc7, kc8, kc9, kc10, kc11, kc12, kc13⟩ := cell14 HS_8.out
  go_wp2_with fail
  refine (encode_nil R X _).mono ?_
  rintro e w10 ⟨rfl, hk⟩
  clear kc0 kc1 kc2 kc3 kc4 kc5 kc6 kc7 kc8 kc9 kc10 kc11 kc12 kc13 hw9
  have HG_9 := hide (HG_8.out.kept hk)
  have HK_9 := hide (HK_8.out.trans hk (by simp))
  have HI_9 := hide (HI_8.out.kept hk (by simp))
  have HS_9 := hide (hk.blk HS_8.out (by simp))
  have HV_9 := hide (HV_8.out.kept hk (by simp))
  have HB_9 := hide (HB_8.out.kept hk (by simp))
  have HIY_9 := hide (HIY_8.out.kept hk (by simp))
  have HX_9 := hide (hk.blk HX_8.out (by simp))
  have HIZ_9 := hide (HIZ_8.out.kept hk (by simp))
  have HY_9 := hide (hk.blk HY_8.out (by simp))
  clear HG_8 HK_8 HI_8 HS_8 HV_8 HB_8 HIY_8 HX_8 HIZ_8 HY_8
  clear hk
  obtain ⟨kc0, kc1, kc2, kc3, kc4, kc5, kc6, kc7, kc8, kc9, kc10, kc11, kc12, kc13⟩ := cell14 HS_9.out
  obtain ⟨kd0, kd1, kd2, kd3, kd4, kd5, kd6, kd7, kd8, kd9, kd10, kd11, kd12, kd13⟩ := cell14 HX_9.out
  obtain ⟨ky0, ky1, ky2, ky3, ky4, ky5, ky6, ky7, ky8, ky9, ky10, ky11, ky12, ky13⟩ := cell14 HY_9.out
  have r1 := HB_9.out.at_ (bytes_start D R).2
  unfold B at r1
  go_wp2_with fail
  refine (same_any R Y X _ HIY_9.out HI_9.out hYs).mono ?_
  rintro e w11 ⟨rfl, hk⟩
  clear kc0 kc1 kc2 kc3 kc4 kc5 kc6 kc7 kc8 kc9 kc10 kc11 kc12 kc13 kd0 kd1 kd2 kd3 kd4 kd5 kd6 kd7 kd8 kd9 kd10 kd11 kd12 kd13 ky0 ky1 ky2 ky3 ky4 ky5 ky6 ky7 ky8 ky9 ky10 ky11 ky12 ky13 r1
  have HG_10 := hide (HG_9.out.kept hk)
  have HK_10 := hide (HK_9.out.trans hk (by simp))
  have HI_10 := hide (HI_9.out.kept hk (by simp))
  have HS_10 := hide (hk.blk HS_9.out (by simp))
  have HIZ_10 := hide (HIZ_9.out.kept hk (by simp))
  have HY_10 := hide (hk.blk HY_9.out (by simp))
  clear HG_9 HK_9 HI_9 HS_9 HIZ_9 HY_9 HX_9 HB_9 HV_9 HIY_9
  clear hk
  obtain ⟨kc0, kc1, kc2, kc3, kc4, kc5, kc6, kc7, kc8, kc9, kc10, kc11, kc12, kc13⟩ := cell14 HS_10.out
  obtain ⟨ky0, ky1, ky2, ky3, ky4, ky5, ky6, ky7, ky8, ky9, ky10, ky11, ky12, ky13⟩ := cell14 HY_10.out
  go_wp2_with fail
  refine (same_any R Z X _ HIZ_10.out HI_10.out hZs).mono ?_
  rintro e w12 ⟨rfl, hk⟩
  clear kc0 kc1 kc2 kc3 kc4 kc5 kc6 kc7 kc8 kc9 kc10 kc11 kc12 kc13 ky0 ky1 ky2 ky3 ky4 ky5 ky6 ky7 ky8 ky9 ky10 ky11 ky12 ky13
  have HG_11 := hide (HG_10.out.kept hk)
  have HK_11 := hide (HK_10.out.trans hk (by simp))
  have HI_11 := hide (HI_10.out.kept hk (by simp))
  have HS_11 := hide (hk.blk HS_10.out (by simp))
  clear HG_10 HK_10 HI_10 HS_10 HY_10 HIZ_10
  clear hk
  obtain ⟨kc0, kc1, kc2, kc3, kc4, kc5, kc6, kc7, kc8, kc9, kc10, kc11, kc12, kc13⟩ := cell14 HS_11.out
  go_wp2_with fail
  refine (may_any G D R X _ HG_11.out HI_11.out hXs).mono ?_
  rintro e w13 ⟨rfl, hk⟩
  rw [HMAY.out]
  clear kc0 kc1 kc2 kc3 kc4 kc5 kc6 kc7 kc8 kc9 kc10 kc11 kc12 kc13
  have HKF := hide (HK_11.out.trans hk (by simp))
  clear hk
  go_wp2
  go_ret
  exact ⟨rfl, HKF.out⟩
end Go.Proofs.Ythacnlpdodlggaa.rg
