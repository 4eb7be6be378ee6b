/-
  The given statement RegionReadsSaid is proved: whatever the arguments are, the law returns true and leaves its input as it was. No conditions.
-/
import Derived.Test.YthacnlpdodlggaaRegionAwake
import Derived.Test.YthacnlpdodlggaaRegionRChoose
import Derived.Test.YthacnlpdodlggaaShapes
import Derived.WalkKit
import Derived.ProofKit
import Derived.OpenShut
import Derived.ShutString
import Derived.ChangeOld
import Derived.Below
namespace Go.Proofs.Ythacnlpdodlggaa.regionReads
open Go.ChangeShapes Go.WideShapes Go.ChangeAt Go.RowKit
open Go.ChangeMaps (open_string shut_string)
open Go.Proofs.Ythacnlpdodlggaa.mem Go.Proofs.Ythacnlpdodlggaa.base Go.Proofs.Ythacnlpdodlggaa.rg
set_option linter.unusedVariables false

theorem own : ownKnob Try.prog.godebug = none := by kernel_rfl
theorem laidOut : laidOutB Try.prog = true := by kernel_rfl


set_option maxRecDepth 100000 in
theorem walk_long (x y z : Int) (A1 A2 : Option Addr) (n1 n2 m1 m2 : Nat) (w : World) (h : 400 < n1 ∨ n1 ≤ 400 ∧ 400 < n2) :
    Calls Try.prog 4 #[.agg #[.int .i64 x, .int .i64 y, .int .i64 z], .slice A1 n1 m1, .slice A2 n2 m2] w fun e w' => e = .returned (.bool true) ∧ Below w.heap.size w w' := by
  have HK := hide ((Kept.refl [] w).alloc (.cells #[.int .i64 x, .int .i64 y, .int .i64 z] 22))
  rcases h with h | ⟨h, h2⟩
  · have g1 : (400 : Int) < n1 := by omega
    go_enter Try.func4, Try.ntmps4
    go_wp2_with fail
    refine (awake_any _).mono ?_
    rintro e w2 ⟨rfl, hk⟩
    have HK2 := hide (HK.out.trans hk (by simp))
    clear hk
    go_wp2
    go_ret
    exact ⟨rfl, HK2.out.below (by simp)⟩
  · have g1 : ¬ (400 : Int) < n1 := by omega
    have g2 : (400 : Int) < n2 := by omega
    go_enter Try.func4, Try.ntmps4
    go_wp2_with fail
    refine (awake_any _).mono ?_
    rintro e w2 ⟨rfl, hk⟩
    have HK2 := hide (HK.out.trans hk (by simp))
    clear hk
    go_wp2
    go_ret
    exact ⟨rfl, HK2.out.below (by simp)⟩

set_option maxRecDepth 100000 in
set_option maxHeartbeats 4000000 in
theorem walk_in (x y z : Int) (A1 A2 : Option Addr) (n1 n2 m1 m2 : Nat) (xs ys : List UInt8) (w : World) (hn1 : n1 ≤ 400) (hn2 : n2 ≤ 400) (hv1 : Vals w [] A1 (xs.map B)) (hl1 : xs.length = n1) (hc1 : n1 ≤ m1) (hA1 : A1 = none → m1 = 0)
    (hv2 : Vals w [] A2 (ys.map B)) (hl2 : ys.length = n2) (hc2 : n2 ≤ m2) (hA2 : A2 = none → m2 = 0) :
    Calls Try.prog 4 #[.agg #[.int .i64 x, .int .i64 y, .int .i64 z], .slice A1 n1 m1, .slice A2 n2 m2] w fun e w' => e = .returned (.bool true) ∧ Below w.heap.size w w' := by
  have g1 : ¬ (400 : Int) < n1 := by omega
  have g2 : ¬ (400 : Int) < n2 := by omega
  have HL1 := hide hl1
  have HL2 := hide hl2
  have HA1 := hide hA1
  have HA2 := hide hA2
  obtain ⟨D, hd⟩ : ∃ D, dvOf x y z = D := ⟨_, rfl⟩
  have HD : Hid D.ok := hide (by rw [← hd]; exact dvOf_ok x y z)
  have HDD := hide hd
  obtain ⟨u, eu, hu⟩ : ∃ u eu, rg.decode D xs = (u, eu) := ⟨_, _, rfl⟩
  obtain ⟨v, pv, ev, hv⟩ : ∃ v pv ev, rg.choose D xs ys = (v, pv, ev) := ⟨_, _, _, rfl⟩
  have HU := hide hu
  have HVV := hide hv
  obtain ⟨w0, hw0⟩ : ∃ w0, w.alloc (.cells #[.int .i64 x, .int .i64 y, .int .i64 z] 22) = w0 := ⟨_, rfl⟩
  have hk0 : Kept [] w w0 := by rw [← hw0]; exact (Kept.refl [] w).alloc _
  have hb0 : Blk w0 w.heap.size 22 #[.int .i64 x, .int .i64 y, .int .i64 z] := by rw [← hw0]; exact Blk.new w _ _
  obtain ⟨q, hq⟩ : ∃ q, w.heap.size = q := ⟨_, rfl⟩
  rw [hq] at hb0
  have HK_0 := hide hk0
  have HV1_0 := hide (hv1.kept hk0 (by simp))
  have HV2_0 := hide (hv2.kept hk0 (by simp))
  have a0 : w0.cell? ⟨q, 0, none⟩ = some (.int .i64 x) := hb0.cell 0
  have a1 : w0.cell? ⟨q, 1, none⟩ = some (.int .i64 y) := hb0.cell 1
  have a2 : w0.cell? ⟨q, 2, none⟩ = some (.int .i64 z) := hb0.cell 2
  clear hl1 hl2 hA1 hA2 hd hu hv hk0 hb0 hv1 hv2
  go_enter Try.func4, Try.ntmps4
  go_wp2_with fail
  refine (kept_any x y z _).mono ?_
  rintro e w1 ⟨G, rfl, hg, hG, hk⟩
  rw [HDD.out] at hg ⊢
  clear a0 a1 a2 hw0
  have HK_1 := hide (HK_0.out.trans hk (by simp))
  have HV1_1 := hide (HV1_0.out.kept hk (by simp))
  have HV2_1 := hide (HV2_0.out.kept hk (by simp))
  clear HK_0 HV1_0 HV2_0
  have HG_1 := hide (hg)
  clear hg hk
  obtain ⟨w2, hw2⟩ : ∃ w2, w1.alloc (.cells #[.int .i64 D.b, .int .i64 (D.n : Int), .int .i64 D.z] 31) = w2 := ⟨_, rfl⟩
  have hkw2 : Kept [] w1 w2 := by rw [← hw2]; exact (Kept.refl [] w1).alloc _
  have hbw2 : Blk w2 w1.heap.size 31 #[.int .i64 D.b, .int .i64 (D.n : Int), .int .i64 D.z] := by rw [← hw2]; exact Blk.new w1 _ _
  obtain ⟨cq, hcq⟩ : ∃ cq, w1.heap.size = cq := ⟨_, rfl⟩
  rw [hcq] at hbw2
  have HK_2 := hide (HK_1.out.trans hkw2 (by simp))
  have HV1_2 := hide (HV1_1.out.kept hkw2 (by simp))
  have HV2_2 := hide (HV2_1.out.kept hkw2 (by simp))
  have HG_2 := hide (HG_1.out.kept hkw2)
  clear HK_1 HV1_1 HV2_1 HG_1
  have HQ_2 := hide (hbw2)
  clear hkw2 hbw2
  go_wp2_with fail
  refine (decode_far G D A1 n1 m1 xs _ HG_2.out HV1_2.out HL1.out HA1.out (by omega)).mono ?_
  rintro e w3 ⟨X, rfl, hXs, hin, hk⟩
  rw [HU.out] at hin ⊢
  dsimp only at hin ⊢
  have hi := hin [] (by simp)
  clear hw2
  have HK_3 := hide (HK_2.out.trans hk (by simp))
  have HV1_3 := hide (HV1_2.out.kept hk (by simp))
  have HV2_3 := hide (HV2_2.out.kept hk (by simp))
  have HG_3 := hide (HG_2.out.kept hk)
  have HQ_3 := hide (hk.blk HQ_2.out (by simp))
  clear HK_2 HV1_2 HV2_2 HG_2 HQ_2
  have HIX_3 := hide (hi)
  clear hk hin hi
  obtain ⟨w4, hw4⟩ : ∃ w4, w3.alloc (.cells (u.cells X) 28) = w4 := ⟨_, rfl⟩
  have hkw4 : Kept [] w3 w4 := by rw [← hw4]; exact (Kept.refl [] w3).alloc _
  have hbw4 : Blk w4 w3.heap.size 28 (u.cells X) := by rw [← hw4]; exact Blk.new w3 _ _
  obtain ⟨sx, hsx⟩ : ∃ sx, w3.heap.size = sx := ⟨_, rfl⟩
  rw [hsx] at hbw4
  have HK_4 := hide (HK_3.out.trans hkw4 (by simp))
  have HV1_4 := hide (HV1_3.out.kept hkw4 (by simp))
  have HV2_4 := hide (HV2_3.out.kept hkw4 (by simp))
  have HG_4 := hide (HG_3.out.kept hkw4)
  have HQ_4 := hide (hkw4.blk HQ_3.out (by simp))
  have HIX_4 := hide (HIX_3.out.kept hkw4 (by simp))
  clear HK_3 HV1_3 HV2_3 HG_3 HQ_3 HIX_3
  have HX_4 := hide (hbw4)
  clear hkw4 hbw4
  unfold Rg.cells at hw4
  unfold Rg.val
  obtain ⟨kq0, kq1, kq2⟩ := cfg_cells HQ_4.out
  go_wp2_with fail
  refine (rof_any D HD.out A1 n1 m1 xs _ HV1_4.out HL1.out hc1 (by omega)).mono ?_
  rintro e w5 ⟨Y, rfl, hYs, hin, hk⟩
  rw [HU.out] at hin ⊢
  dsimp only at hin ⊢
  have hi := hin [] (by simp)
  clear kq0 kq1 kq2 hw4
  have HK_5 := hide (HK_4.out.trans hk (by simp))
  have HV1_5 := hide (HV1_4.out.kept hk (by simp))
  have HV2_5 := hide (HV2_4.out.kept hk (by simp))
  have HG_5 := hide (HG_4.out.kept hk)
  have HQ_5 := hide (hk.blk HQ_4.out (by simp))
  have HIX_5 := hide (HIX_4.out.kept hk (by simp))
  have HX_5 := hide (hk.blk HX_4.out (by simp))
  clear HK_4 HV1_4 HV2_4 HG_4 HQ_4 HIX_4 HX_4
  have HIY_5 := hide (hi)
  clear hk hin hi
  obtain ⟨w6, hw6⟩ : ∃ w6, w5.alloc (.cells (u.cells Y) 28) = w6 := ⟨_, rfl⟩
  have hkw6 : Kept [] w5 w6 := by rw [← hw6]; exact (Kept.refl [] w5).alloc _
  have hbw6 : Blk w6 w5.heap.size 28 (u.cells Y) := by rw [← hw6]; exact Blk.new w5 _ _
  obtain ⟨sy, hsy⟩ : ∃ sy, w5.heap.size = sy := ⟨_, rfl⟩
  rw [hsy] at hbw6
  have HK_6 := hide (HK_5.out.trans hkw6 (by simp))
  have HV1_6 := hide (HV1_5.out.kept hkw6 (by simp))
  have HV2_6 := hide (HV2_5.out.kept hkw6 (by simp))
  have HG_6 := hide (HG_5.out.kept hkw6)
  have HQ_6 := hide (hkw6.blk HQ_5.out (by simp))
  have HIX_6 := hide (HIX_5.out.kept hkw6 (by simp))
  have HX_6 := hide (hkw6.blk HX_5.out (by simp))
  have HIY_6 := hide (HIY_5.out.kept hkw6 (by simp))
  clear HK_5 HV1_5 HV2_5 HG_5 HQ_5 HIX_5 HX_5 HIY_5
  have HY_6 := hide (hbw6)
  clear hkw6 hbw6
  unfold Rg.cells at hw6
  unfold Rg.val
  go_wp2_with fail
  refine (choose_any G D A1 A2 n1 n2 m1 m2 xs ys _ HG_6.out HV1_6.out HL1.out HA1.out (by omega) HV2_6.out HL2.out HA2.out (by omega)).mono ?_
  rintro e w7 ⟨Z, rfl, hZs, hin, hk⟩
  rw [HVV.out] at hin ⊢
  dsimp only at hin ⊢
  have hi := hin [] (by simp)
  clear hw6
  have HK_7 := hide (HK_6.out.trans hk (by simp))
  have HV1_7 := hide (HV1_6.out.kept hk (by simp))
  have HV2_7 := hide (HV2_6.out.kept hk (by simp))
  have HG_7 := hide (HG_6.out.kept hk)
  have HQ_7 := hide (hk.blk HQ_6.out (by simp))
  have HIX_7 := hide (HIX_6.out.kept hk (by simp))
  have HX_7 := hide (hk.blk HX_6.out (by simp))
  have HIY_7 := hide (HIY_6.out.kept hk (by simp))
  have HY_7 := hide (hk.blk HY_6.out (by simp))
  clear HK_6 HV1_6 HV2_6 HG_6 HQ_6 HIX_6 HX_6 HIY_6 HY_6
  have HIZ_7 := hide (hi)
  clear hk hin hi
  obtain ⟨w8, hw8⟩ : ∃ w8, w7.alloc (.cells (v.cells Z) 28) = w8 := ⟨_, rfl⟩
  have hkw8 : Kept [] w7 w8 := by rw [← hw8]; exact (Kept.refl [] w7).alloc _
  have hbw8 : Blk w8 w7.heap.size 28 (v.cells Z) := by rw [← hw8]; exact Blk.new w7 _ _
  obtain ⟨sz, hsz⟩ : ∃ sz, w7.heap.size = sz := ⟨_, rfl⟩
  rw [hsz] at hbw8
  have HK_8 := hide (HK_7.out.trans hkw8 (by simp))
  have HV1_8 := hide (HV1_7.out.kept hkw8 (by simp))
  have HV2_8 := hide (HV2_7.out.kept hkw8 (by simp))
  have HG_8 := hide (HG_7.out.kept hkw8)
  have HQ_8 := hide (hkw8.blk HQ_7.out (by simp))
  have HIX_8 := hide (HIX_7.out.kept hkw8 (by simp))
  have HX_8 := hide (hkw8.blk HX_7.out (by simp))
  have HIY_8 := hide (HIY_7.out.kept hkw8 (by simp))
  have HY_8 := hide (hkw8.blk HY_7.out (by simp))
  have HIZ_8 := hide (HIZ_7.out.kept hkw8 (by simp))
  clear HK_7 HV1_7 HV2_7 HG_7 HQ_7 HIX_7 HX_7 HIY_7 HY_7 HIZ_7
  have HZ_8 := hide (hbw8)
  clear hkw8 hbw8
  unfold Rg.cells at hw8
  unfold Rg.val
  obtain ⟨kq0, kq1, kq2⟩ := cfg_cells HQ_8.out
  go_wp2_with fail
  refine (rchoose_any D HD.out A1 A2 n1 n2 m1 m2 xs ys _ HV1_8.out HL1.out hc1 (by omega) HV2_8.out HL2.out hc2 (by omega)).mono ?_
  rintro e w9 ⟨T, rfl, hTs, hin, hk⟩
  rw [HVV.out] at hin ⊢
  dsimp only at hin ⊢
  have hi := hin [] (by simp)
  clear kq0 kq1 kq2 hw8
  have HK_9 := hide (HK_8.out.trans hk (by simp))
  have HIX_9 := hide (HIX_8.out.kept hk (by simp))
  have HX_9 := hide (hk.blk HX_8.out (by simp))
  have HIY_9 := hide (HIY_8.out.kept hk (by simp))
  have HY_9 := hide (hk.blk HY_8.out (by simp))
  have HIZ_9 := hide (HIZ_8.out.kept hk (by simp))
  have HZ_9 := hide (hk.blk HZ_8.out (by simp))
  clear HK_8 HIX_8 HX_8 HIY_8 HY_8 HIZ_8 HZ_8 HQ_8 HV1_8 HV2_8 HG_8
  have HIT_9 := hide (hi)
  clear hk hin hi
  obtain ⟨wa, hwa⟩ : ∃ wa, w9.alloc (.cells (v.cells T) 28) = wa := ⟨_, rfl⟩
  have hkwa : Kept [] w9 wa := by rw [← hwa]; exact (Kept.refl [] w9).alloc _
  have hbwa : Blk wa w9.heap.size 28 (v.cells T) := by rw [← hwa]; exact Blk.new w9 _ _
  obtain ⟨st, hst⟩ : ∃ st, w9.heap.size = st := ⟨_, rfl⟩
  rw [hst] at hbwa
  have HK_10 := hide (HK_9.out.trans hkwa (by simp))
  have HIX_10 := hide (HIX_9.out.kept hkwa (by simp))
  have HX_10 := hide (hkwa.blk HX_9.out (by simp))
  have HIY_10 := hide (HIY_9.out.kept hkwa (by simp))
  have HY_10 := hide (hkwa.blk HY_9.out (by simp))
  have HIZ_10 := hide (HIZ_9.out.kept hkwa (by simp))
  have HZ_10 := hide (hkwa.blk HZ_9.out (by simp))
  have HIT_10 := hide (HIT_9.out.kept hkwa (by simp))
  clear HK_9 HIX_9 HX_9 HIY_9 HY_9 HIZ_9 HZ_9 HIT_9
  have HT_10 := hide (hbwa)
  clear hkwa hbwa
  unfold Rg.cells at hwa
  unfold Rg.val
  obtain ⟨kx0, kx1, kx2, kx3, kx4, kx5, kx6, kx7, kx8, kx9, kx10, kx11, kx12, kx13⟩ := cell14 HX_10.out
  obtain ⟨ky0, ky1, ky2, ky3, ky4, ky5, ky6, ky7, ky8, ky9, ky10, ky11, ky12, ky13⟩ := cell14 HY_10.out
  obtain ⟨kz0, kz1, kz2, kz3, kz4, kz5, kz6, kz7, kz8, kz9, kz10, kz11, kz12, kz13⟩ := cell14 HZ_10.out
  obtain ⟨kt0, kt1, kt2, kt3, kt4, kt5, kt6, kt7, kt8, kt9, kt10, kt11, kt12, kt13⟩ := cell14 HT_10.out
  go_wp2_with fail
  refine (same_any u X Y _ HIX_10.out HIY_10.out hXs).mono ?_
  rintro e wb ⟨rfl, hk⟩
  clear kx0 kx1 kx2 kx3 kx4 kx5 kx6 kx7 kx8 kx9 kx10 kx11 kx12 kx13 ky0 ky1 ky2 ky3 ky4 ky5 ky6 ky7 ky8 ky9 ky10 ky11 ky12 ky13 kz0 kz1 kz2 kz3 kz4 kz5 kz6 kz7 kz8 kz9 kz10 kz11 kz12 kz13 kt0 kt1 kt2 kt3 kt4 kt5 kt6 kt7 kt8 kt9 kt10 kt11 kt12 kt13 hwa
  have HK_11 := hide (HK_10.out.trans hk (by simp))
  have HIZ_11 := hide (HIZ_10.out.kept hk (by simp))
  have HZ_11 := hide (hk.blk HZ_10.out (by simp))
  have HIT_11 := hide (HIT_10.out.kept hk (by simp))
  have HT_11 := hide (hk.blk HT_10.out (by simp))
  clear HK_10 HIZ_10 HZ_10 HIT_10 HT_10 HX_10 HY_10 HIX_10 HIY_10
  clear hk
  obtain ⟨kz0, kz1, kz2, kz3, kz4, kz5, kz6, kz7, kz8, kz9, kz10, kz11, kz12, kz13⟩ := cell14 HZ_11.out
  obtain ⟨kt0, kt1, kt2, kt3, kt4, kt5, kt6, kt7, kt8, kt9, kt10, kt11, kt12, kt13⟩ := cell14 HT_11.out
  go_wp2_with fail
  refine (same_any v Z T _ HIZ_11.out HIT_11.out hZs).mono ?_
  rintro e wc ⟨rfl, hk⟩
  clear kz0 kz1 kz2 kz3 kz4 kz5 kz6 kz7 kz8 kz9 kz10 kz11 kz12 kz13 kt0 kt1 kt2 kt3 kt4 kt5 kt6 kt7 kt8 kt9 kt10 kt11 kt12 kt13
  have HK_12 := hide (HK_11.out.trans hk (by simp))
  clear HK_11 HZ_11 HT_11 HIZ_11 HIT_11
  clear hk
  go_wp2_with fail
  refine (awake_any _).mono ?_
  rintro e wd ⟨rfl, hk⟩
  have HKF := hide (HK_12.out.trans hk (by simp))
  clear hk
  go_wp2
  go_ret
  exact ⟨rfl, HKF.out.below (by simp)⟩

theorem walk (a0_0 a0_1 a0_2 : Int) (a1 : Option Addr) (len1 cap1 : Nat) (z1 : List Int) (a2 : Option Addr) (len2 cap2 : Nat) (z2 : List Int) (w : World) (w0_0 : (Lit.int .i64 a0_0).wf = true) (w0_1 : (Lit.int .i64 a0_1).wf = true) (w0_2 : (Lit.int .i64 a0_2).wf = true) (w1 : IsRow .u8 w a1 len1 cap1 z1) (w2 : IsRow .u8 w a2 len2 cap2 z2) :
    Calls Try.prog 4 #[.agg #[.int .i64 a0_0, .int .i64 a0_1, .int .i64 a0_2], .slice a1 len1 cap1, .slice a2 len2 cap2] w fun e w' => e = .returned (.bool true) ∧ Below w.heap.size w w' := by
  obtain ⟨xs, hl1, hc1, hv1, hA1⟩ := w1.bytes
  obtain ⟨ys, hl2, hc2, hv2, hA2⟩ := w2.bytes
  by_cases h1 : len1 ≤ 400
  · by_cases h2 : len2 ≤ 400
    · exact walk_in a0_0 a0_1 a0_2 a1 a2 len1 len2 cap1 cap2 xs ys w h1 h2 hv1 hl1 hc1 hA1 hv2 hl2 hc2 hA2
    · exact walk_long a0_0 a0_1 a0_2 a1 a2 len1 len2 cap1 cap2 w (.inr ⟨h1, by omega⟩)
  · exact walk_long a0_0 a0_1 a0_2 a1 a2 len1 len2 cap1 cap2 w (.inl (by omega))

/-! ### the row's step, as the guide's skeleton has it -/
set_option maxRecDepth 100000 in
theorem lifted (os : Os) (started : os.Started) (H : Type) (enc : TypeId × Value → H) :
    ReturnsInHanded {} Try.checked os 4 .any (Rows.regionReadsSpec.pre6 enc Try.prog Try.f4 Rows.regionReadsRow.domain false) (Rows.regionReadsSpec.post enc Try.prog Try.f4 false true false false) := by
  refine returnsInHanded_of_change (C := Try.checked) own started (by kernel_rfl) Try.func4
    (ChangeSpec.witness6 (enc := enc) (C := Try.checked) false ⟨#[], #[.agg #[.int .i64 0, .int .i64 0, .int .i64 0], .slice none 0 0, .slice none 0 0], []⟩ 8 (by kernel_rfl) (by kernel_rfl) (by kernel_rfl) (by kernel_rfl)) ?_
  intro W base args ds gs before hval0 hW hcnd _
  have hval : ∀ (j : Nat) t v, Try.f4.params[j]? = some t → args[j]? = some v → Value.okWide Try.prog W .any base t v := hval0
  have hW' := hW
  obtain ⟨p, q, hA0, hV, rfl, hfz, hnd⟩ := hW
  have hA : DataW.TrodAll enc Try.prog W 0 (fun _ => true) true Try.f4.params.toList args.toList ds p := hA0
  rw [Try.params4] at hA hval
  obtain ⟨v0, vs0, d0, ds0, p0, q0, hargs, rfl, rfl, h0, r0⟩ := trodAll_cons hA
  obtain ⟨v1, vs1, d1, ds1, p1, q1, rfl, rfl, rfl, h1, r1⟩ := trodAll_cons r0
  obtain ⟨v2, vs2, d2, ds2, p2, q2, rfl, rfl, rfl, h2, r2⟩ := trodAll_cons r1
  obtain ⟨rfl, rfl, rfl⟩ := trodAll_nil r2
  obtain rfl : args = #[v0, v1, v2] := by cases args; simp_all
  obtain ⟨rfl, rfl⟩ := trodVars_none hV
  have k0 := h0
  have lt0 : ∀ x ∈ p0, x.block < W.heap.size := by obtain ⟨m, hm⟩ := k0; exact DataW.trod_lt m _ _ _ hm
  obtain ⟨xs0, rfl, hl0, hx0⟩ := agg_ints (ts := List.replicate 3 3) (n := 3) (by kernel_rfl) (by kernel_rfl) (fun u hu => by rw [List.eq_of_mem_replicate hu]; exact Try.underlying3) (by kernel_rfl) (hval 0 22 v0 rfl rfl)
  obtain ⟨a0_0, a0_1, a0_2, rfl⟩ := list3 hl0
  have w0_0 := hx0 a0_0 (by simp)
  have w0_1 := hx0 a0_1 (by simp)
  have w0_2 := hx0 a0_2 (by simp)
  obtain ⟨a1, len1, cap1, rfl⟩ := okWide_slice Try.underlying35 (hval 1 35 v1 rfl rfl)
  have k1 := h1
  have lt1 : ∀ x ∈ p1, x.block < W.heap.size := by obtain ⟨m, hm⟩ := k1; exact DataW.trod_lt m _ _ _ hm
  obtain ⟨z1, w1⟩ : ∃ zs, IsRow .u8 W a1 len1 cap1 zs := by
    obtain ⟨fuel, hf⟩ := h1
    rcases open_ints Try.underlying35 Try.underlying5 (by kernel_rfl) hf with ⟨hcs, _⟩ | ⟨x, l, c, zs, hcs, _, hl, hm, hz, _, hcell, hwz⟩
    · simp [Value.cells] at hcs
      obtain ⟨rfl, rfl, rfl⟩ := hcs
      exact ⟨[], .inl ⟨rfl, rfl, rfl, rfl⟩⟩
    · simp [Value.cells] at hcs
      obtain ⟨rfl, rfl, rfl⟩ := hcs
      exact ⟨zs, .inr ⟨_, rfl, hl, hm, by simpa using hz, hcell, hwz⟩⟩
  obtain ⟨a2, len2, cap2, rfl⟩ := okWide_slice Try.underlying35 (hval 2 35 v2 rfl rfl)
  have k2 := h2
  have lt2 : ∀ x ∈ p2, x.block < W.heap.size := by obtain ⟨m, hm⟩ := k2; exact DataW.trod_lt m _ _ _ hm
  obtain ⟨z2, w2⟩ : ∃ zs, IsRow .u8 W a2 len2 cap2 zs := by
    obtain ⟨fuel, hf⟩ := h2
    rcases open_ints Try.underlying35 Try.underlying5 (by kernel_rfl) hf with ⟨hcs, _⟩ | ⟨x, l, c, zs, hcs, _, hl, hm, hz, _, hcell, hwz⟩
    · simp [Value.cells] at hcs
      obtain ⟨rfl, rfl, rfl⟩ := hcs
      exact ⟨[], .inl ⟨rfl, rfl, rfl, rfl⟩⟩
    · simp [Value.cells] at hcs
      obtain ⟨rfl, rfl, rfl⟩ := hcs
      exact ⟨zs, .inr ⟨_, rfl, hl, hm, by simpa using hz, hcell, hwz⟩⟩
  clear hA0 hval0
  refine (walk a0_0 a0_1 a0_2 a1 len1 cap1 z1 a2 len2 cap2 z2 W w0_0 w0_1 w0_2 w1 w2).mono fun e W' ⟨he, bel⟩ => ?_
  subst he
  exact ⟨_, rfl, _, _, _, [], _, [], hW', trodAll_mk1 (shut_bool Try.underlying4 _), (trodAll_cons_mk (Below.trod laidOut (by kernel_rfl) (of_decide_eq_true (by kernel_rfl)) k0 bel lt0) (trodAll_cons_mk (Below.trod laidOut (by kernel_rfl) (of_decide_eq_true (by kernel_rfl)) k1 bel lt1) (trodAll_cons_mk (Below.trod laidOut (by kernel_rfl) (of_decide_eq_true (by kernel_rfl)) k2 bel lt2) trodAll_mk0))), rfl, bel.frame _, fun h => by cases h⟩

theorem over : Rows.regionReadsRow.holds Try.pinned (OpenSpec.ofChange Rows.regionReadsSpec) :=
  OpenClaim.holds_of_wide 4 Try.f4 rfl rfl rfl rfl rfl rfl rfl ⟨rfl, rfl, rfl, rfl, rfl⟩ rfl rfl rfl rfl rfl (by kernel_rfl) Try.func4 (by kernel_rfl)
    (of_decide_eq_true (by kernel_rfl)) (by unfold Func.isWrapper; first | (rw [if_pos (by decide +kernel)]; kernel_rfl) | (rw [if_neg (by decide +kernel)]; exact ⟨rfl, rfl⟩))
    (fun os started H enc _ => lifted os started H enc)

/-- The statement. -/
theorem proved : Rows.RegionReadsSaid := over
#print axioms proved
end Go.Proofs.Ythacnlpdodlggaa.regionReads

