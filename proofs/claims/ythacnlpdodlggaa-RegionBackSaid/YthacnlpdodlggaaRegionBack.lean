/-
  The given statement RegionBackSaid is proved: whatever the arguments are, the law returns true and leaves its input as it was. No conditions.
-/
import Derived.Test.YthacnlpdodlggaaRegionAwake
import Derived.Test.YthacnlpdodlggaaCrcCore
import Derived.Test.YthacnlpdodlggaaShapes
import Derived.WalkKit
import Derived.ProofKit
import Derived.OpenShut
import Derived.ShutString
import Derived.ChangeOld
import Derived.Below
namespace Go.Proofs.Ythacnlpdodlggaa.regionBack
open Go.ChangeShapes Go.WideShapes Go.ChangeAt Go.RowKit
open Go.ChangeMaps (open_string shut_string)
open Go.Proofs.Ythacnlpdodlggaa.mem Go.Proofs.Ythacnlpdodlggaa.base Go.Proofs.Ythacnlpdodlggaa.rg Go.Proofs.Ythacnlpdodlggaa.crc Go.Proofs.Ythacnlpdodlggaa.row
set_option linter.unusedVariables false

theorem own : ownKnob Try.prog.godebug = none := by kernel_rfl
theorem laidOut : laidOutB Try.prog = true := by kernel_rfl

set_option maxRecDepth 100000 in
set_option maxHeartbeats 4000000 in
theorem walk (a0_0 a0_1 a0_2 : Int) (a1 : Option Addr) (len1 cap1 : Nat) (z1 : List Int) (a2 : Int) (a3 : Int) (a4 : Int) (w : World) (w0_0 : (Lit.int .i64 a0_0).wf = true) (w0_1 : (Lit.int .i64 a0_1).wf = true) (w0_2 : (Lit.int .i64 a0_2).wf = true) (w1 : IsRow .i64 w a1 len1 cap1 z1) (w2 : (Lit.int .i64 a2).wf = true) (w3 : (Lit.int .i64 a3).wf = true) (w4 : (Lit.int .u32 a4).wf = true) :
    Calls Try.prog 5 #[.agg #[.int .i64 a0_0, .int .i64 a0_1, .int .i64 a0_2], .slice a1 len1 cap1, .int .i64 a2, .int .i64 a3, .int .u32 a4] w fun e w' => e = .returned (.bool true) ∧ Below w.heap.size w w' := by
  have hu4 := bounds_u32 w4
  clear w4
  obtain ⟨p, rfl⟩ : ∃ p : Nat, a4 = p := ⟨a4.toNat, by omega⟩
  have HP : Hid (p < 4294967296) := hide (by omega)
  clear hu4
  obtain ⟨l, hl, hlc, hv, hA0⟩ := w1.ints
  obtain ⟨D, hd⟩ : ∃ D, dvOf a0_0 a0_1 a0_2 = D := ⟨_, rfl⟩
  have hD : D.ok := by rw [← hd]; exact dvOf_ok a0_0 a0_1 a0_2
  have HD := hide hD
  have HDD := hide hd
  have HLL := hide hl
  obtain ⟨N, hN⟩ : ∃ N, 64 * D.r = N := ⟨_, rfl⟩
  obtain ⟨M, hM⟩ : ∃ M, N = M + 4 := ⟨N - 4, by have := hD.bd; omega⟩
  have hN256 : N ≤ 256 := by have := hD.bd; omega
  have hN128 : 128 ≤ N := by have := hD.bd; omega
  have HN := hide hN
  have HNM := hide hM
  have hMN : M ≤ N := by omega
  have hM1 : 1 ≤ M := by omega
  have G1 : Hid (IntKind.i64.wrap (64 * (D.r : Int)) = (N : Int)) := hide (by rw [IntWalk.i64_in _ (by omega)]; omega)
  have G2 : Hid (IntKind.i64.wrap ((N : Int) - 4) = (M : Int)) := hide (by rw [IntWalk.i64_in _ (by omega)]; omega)
  obtain ⟨w0, hw0⟩ : ∃ w0, w.alloc (.cells #[.int .i64 a0_0, .int .i64 a0_1, .int .i64 a0_2] 22) = w0 := ⟨_, rfl⟩
  have hk0 : Kept [] w w0 := by rw [← hw0]; exact (Kept.refl [] w).alloc _
  have hb0 : Blk w0 w.heap.size 22 #[.int .i64 a0_0, .int .i64 a0_1, .int .i64 a0_2] := by rw [← hw0]; exact Blk.new w _ _
  obtain ⟨q, hq⟩ : ∃ q, w.heap.size = q := ⟨_, rfl⟩
  rw [hq] at hb0
  have HK_0 := hide hk0
  have HL_0 := hide (hv.kept hk0 (by simp))
  have HA_0 := hide hb0
  have a00 : w0.cell? ⟨q, 0, none⟩ = some (.int .i64 a0_0) := hb0.cell 0
  have a01 : w0.cell? ⟨q, 1, none⟩ = some (.int .i64 a0_1) := hb0.cell 1
  have a02 : w0.cell? ⟨q, 2, none⟩ = some (.int .i64 a0_2) := hb0.cell 2
  clear hd hk0 hb0 hv hl hN hM hD w0_0 w0_1 w0_2 w1 w2 w3
  go_enter Try.func5, Try.ntmps5
  go_wp2_with fail
  refine (kept_any a0_0 a0_1 a0_2 _).mono ?_
  rintro e w1 ⟨G, rfl, hg, hG, hk⟩
  rw [HDD.out] at hg ⊢
  clear a00 a01 a02 hw0
  have HK_1 := hide (HK_0.out.trans hk (by simp))
  have HL_1 := hide (HL_0.out.kept hk (by simp))
  have HA_1 := hide (hk.blk HA_0.out (by simp))
  clear HK_0 HL_0 HA_0
  have HG_1 := hide (hg)
  clear hg hk
  obtain ⟨w2, hw2⟩ : ∃ w2, w1.alloc (.cells #[.int .i64 D.b, .int .i64 (D.n : Int), .int .i64 D.z] 31) = w2 := ⟨_, rfl⟩
  have hkw2 : Kept [] w1 w2 := by rw [← hw2]; exact (Kept.refl [] w1).alloc _
  have hbw2 : Blk w2 w1.heap.size 31 #[.int .i64 D.b, .int .i64 (D.n : Int), .int .i64 D.z] := by rw [← hw2]; exact Blk.new w1 _ _
  obtain ⟨cq, hcq⟩ : ∃ cq, w1.heap.size = cq := ⟨_, rfl⟩
  rw [hcq] at hbw2
  have HK_2 := hide (HK_1.out.trans hkw2 (by simp))
  have HL_2 := hide (HL_1.out.kept hkw2 (by simp))
  have HA_2 := hide (hkw2.blk HA_1.out (by simp))
  have HG_2 := hide (HG_1.out.kept hkw2)
  clear HK_1 HL_1 HA_1 HG_1
  have HQ_2 := hide (hbw2)
  clear hkw2 hbw2
  obtain ⟨a00, a01, a02⟩ : _ ∧ _ ∧ _ := ⟨(HA_2.out).cell 0, (HA_2.out).cell 1, (HA_2.out).cell 2⟩
  simp at a00 a01 a02
  go_wp2_with fail
  refine (made_any a0_0 a0_1 a0_2 a1 l len1 cap1 a2 _ HL_2.out HLL.out).mono ?_
  rintro e w3 ⟨R, X, rfl, hgood, hXs, hin, hk⟩
  rw [HDD.out] at hgood
  have HGOOD := hide hgood
  have HMAY := hide ((R.may_iff D).2 hgood)
  have HBY : Hid ((R.bytes D).length = N) := hide (by rw [Rg.bytes_len HD.out hgood, HN.out])
  have HBO : Hid ((R.body D).length = M) := hide (by rw [Rg.body_len HD.out hgood, HN.out, HNM.out]; rfl)
  have hi := hin [] (by simp)
  clear a00 a01 a02 hw2
  have HK_3 := hide (HK_2.out.trans hk (by simp))
  have HG_3 := hide (HG_2.out.kept hk)
  clear HK_2 HG_2 HA_2 HL_2 HQ_2
  have HI_3 := hide (hi)
  clear hk hin hi hgood
  obtain ⟨w4, hw4⟩ : ∃ w4, w3.alloc (.cells (R.cells X) 28) = w4 := ⟨_, rfl⟩
  have hkw4 : Kept [] w3 w4 := by rw [← hw4]; exact (Kept.refl [] w3).alloc _
  have hbw4 : Blk w4 w3.heap.size 28 (R.cells X) := by rw [← hw4]; exact Blk.new w3 _ _
  obtain ⟨s, hs⟩ : ∃ s, w3.heap.size = s := ⟨_, rfl⟩
  rw [hs] at hbw4
  have HK_4 := hide (HK_3.out.trans hkw4 (by simp))
  have HG_4 := hide (HG_3.out.kept hkw4)
  have HI_4 := hide (HI_3.out.kept hkw4 (by simp))
  clear HK_3 HG_3 HI_3
  have HS_4 := hide (hbw4)
  clear hkw4 hbw4
  unfold Rg.cells at hw4
  unfold Rg.val
  obtain ⟨kc0, kc1, kc2, kc3, kc4, kc5, kc6, kc7, kc8, kc9, kc10, kc11, kc12, kc13⟩ := cell14 HS_4.out
  go_wp2_with fail
  refine (encode_yes G D R X _ HG_4.out HI_4.out hXs HMAY.out).mono ?_
  rintro e w5 ⟨A5, c5, rfl, hn, hk⟩
  rw [HN.out]
  have hA := hn.nil0
  have HAN := hide hA
  obtain ⟨b5, hb5, _, ha5⟩ := hn.pos (by rw [HBY.out]; omega)
  subst hb5
  have hc5 : N ≤ c5 := by have := ha5.len; rw [HBY.out] at this; exact this
  clear kc0 kc1 kc2 kc3 kc4 kc5 kc6 kc7 kc8 kc9 kc10 kc11 kc12 kc13 hw4
  have HK_5 := hide (HK_4.out.trans hk (by simp))
  have HG_5 := hide (HG_4.out.kept hk)
  have HI_5 := hide (HI_4.out.kept hk (by simp))
  have HS_5 := hide (hk.blk HS_4.out (by simp))
  clear HK_4 HG_4 HI_4 HS_4
  have HB_5 := hide (ha5)
  clear hk hn ha5 hA
  go_wp2_with fail
  refine (glen G D _ HG_5.out).mono ?_
  rintro e w6 ⟨rfl, hk⟩
  have g1 := G1.out
  have HK_6 := hide (HK_5.out.trans hk (by simp))
  have HG_6 := hide (HG_5.out.kept hk)
  have HI_6 := hide (HI_5.out.kept hk (by simp))
  have HS_6 := hide (hk.blk HS_5.out (by simp))
  have HB_6 := hide (HB_5.out.kept hk (by simp))
  clear HK_5 HG_5 HI_5 HS_5 HB_5
  clear hk
  go_wp2_with fail
  refine (decode_far G D (some ⟨b5, 0, none⟩) N c5 (R.bytes D) _ HG_6.out (HB_6.out.vals (by simp)) HBY.out HAN.out (by omega)).mono ?_
  rintro e w7 ⟨Y, rfl, hYs, hin, hk⟩
  rw [decode_bytes HD.out HGOOD.out] at hin ⊢
  dsimp only at hin ⊢
  have hi := hin [] (by simp)
  clear g1
  have HK_7 := hide (HK_6.out.trans hk (by simp))
  have HG_7 := hide (HG_6.out.kept hk)
  have HI_7 := hide (HI_6.out.kept hk (by simp))
  have HS_7 := hide (hk.blk HS_6.out (by simp))
  have HB_7 := hide (HB_6.out.kept hk (by simp))
  clear HK_6 HG_6 HI_6 HS_6 HB_6
  have HIY_7 := hide (hi)
  clear hk hin hi
  obtain ⟨w8, hw8⟩ : ∃ w8, w7.alloc (.cells (R.cells Y) 28) = w8 := ⟨_, rfl⟩
  have hkw8 : Kept [] w7 w8 := by rw [← hw8]; exact (Kept.refl [] w7).alloc _
  have hbw8 : Blk w8 w7.heap.size 28 (R.cells Y) := by rw [← hw8]; exact Blk.new w7 _ _
  obtain ⟨sx, hsx⟩ : ∃ sx, w7.heap.size = sx := ⟨_, rfl⟩
  rw [hsx] at hbw8
  have HK_8 := hide (HK_7.out.trans hkw8 (by simp))
  have HG_8 := hide (HG_7.out.kept hkw8)
  have HI_8 := hide (HI_7.out.kept hkw8 (by simp))
  have HS_8 := hide (hkw8.blk HS_7.out (by simp))
  have HB_8 := hide (HB_7.out.kept hkw8 (by simp))
  have HIY_8 := hide (HIY_7.out.kept hkw8 (by simp))
  clear HK_7 HG_7 HI_7 HS_7 HB_7 HIY_7
  have HX_8 := hide (hbw8)
  clear hkw8 hbw8
  unfold Rg.cells at hw8
  unfold Rg.val
  have g2 := G2.out
  go_wp2_with fail
  refine (turned_below (some ⟨b5, 0, none⟩) N M c5 a3 p (R.body D) (super.sumOf (R.body D)) _ (by exact HB_8.out.vals (by simp)) (by exact HBY.out) HBO.out hc5 (by omega) hMN (by omega) HP.out).mono ?_
  rintro e w9 ⟨gt, first, out, any, rfl, _, hfirst, hturn, hax, hk⟩
  have hf : first < 8 * (64 * D.r - 4) := by
    have := Int.emod_lt_of_pos a3 (show (0 : Int) < ((8 * M : Nat) : Int) by omega)
    have := Int.emod_nonneg a3 (show ((8 * M : Nat) : Int) ≠ 0 by omega)
    have := HN.out
    have := HNM.out
    omega
  obtain ⟨u, eu, hu⟩ : ∃ u eu, rg.decode D (out ++ super.sumOf (R.body D)) = (u, eu) := ⟨_, _, rfl⟩
  have HC := hide (decode_turned HD.out HGOOD.out out first p any hturn hf u eu hu)
  have HOL : Hid ((out ++ super.sumOf (R.body D)).length = N) := hide (by rw [List.length_append, hturn.len, HBO.out, super.sumOf_len, HNM.out])
  have HU := hide hu
  have hvx := hax.vals (S := []) (by simp)
  clear hw8 g2
  have HK_9 := hide (HK_8.out.trans hk (by simp))
  have HG_9 := hide (HG_8.out.kept hk)
  have HI_9 := hide (HI_8.out.kept hk (by simp))
  have HS_9 := hide (hk.blk HS_8.out (by simp))
  have HIY_9 := hide (HIY_8.out.kept hk (by simp))
  have HX_9 := hide (hk.blk HX_8.out (by simp))
  clear HK_8 HG_8 HI_8 HS_8 HIY_8 HX_8 HB_8
  have HO_9 := hide (hvx)
  clear hk hfirst hturn hax hf hu hvx
  go_wp2_with fail
  refine (decode_far G D (some ⟨gt, 0, none⟩) N N (out ++ super.sumOf (R.body D)) _ HG_9.out HO_9.out HOL.out (by simp) (by omega)).mono ?_
  rintro e wa ⟨Z, rfl, hZs, _, hk⟩
  rw [HU.out]
  dsimp only
  have HK_10 := hide (HK_9.out.trans hk (by simp))
  have HG_10 := hide (HG_9.out.kept hk)
  have HI_10 := hide (HI_9.out.kept hk (by simp))
  have HS_10 := hide (hk.blk HS_9.out (by simp))
  have HIY_10 := hide (HIY_9.out.kept hk (by simp))
  have HX_10 := hide (hk.blk HX_9.out (by simp))
  clear HK_9 HG_9 HI_9 HS_9 HIY_9 HX_9 HO_9
  clear hk
  obtain ⟨wb, hwb⟩ : ∃ wb, wa.alloc (.cells (u.cells Z) 28) = wb := ⟨_, rfl⟩
  have hkwb : Kept [] wa wb := by rw [← hwb]; exact (Kept.refl [] wa).alloc _
  have hbwb : Blk wb wa.heap.size 28 (u.cells Z) := by rw [← hwb]; exact Blk.new wa _ _
  obtain ⟨sz, hsz⟩ : ∃ sz, wa.heap.size = sz := ⟨_, rfl⟩
  rw [hsz] at hbwb
  have HK_11 := hide (HK_10.out.trans hkwb (by simp))
  have HG_11 := hide (HG_10.out.kept hkwb)
  have HI_11 := hide (HI_10.out.kept hkwb (by simp))
  have HS_11 := hide (hkwb.blk HS_10.out (by simp))
  have HIY_11 := hide (HIY_10.out.kept hkwb (by simp))
  have HX_11 := hide (hkwb.blk HX_10.out (by simp))
  clear HK_10 HG_10 HI_10 HS_10 HIY_10 HX_10
  have HZ_11 := hide (hbwb)
  clear hkwb hbwb
  unfold Rg.cells at hwb
  unfold Rg.val
  obtain ⟨kc0, kc1, kc2, kc3, kc4, kc5, kc6, kc7, kc8, kc9, kc10, kc11, kc12, kc13⟩ := cell14 HS_11.out
  have hcc := HC.out
  rcases hcc with ⟨rfl, rfl⟩ | ⟨rfl, rfl⟩
  all_goals
    go_wp2_with fail
    refine (may_any G D R X _ HG_11.out HI_11.out hXs).mono ?_
    rintro e wc ⟨rfl, hk⟩
    rw [HMAY.out]
    clear kc0 kc1 kc2 kc3 kc4 kc5 kc6 kc7 kc8 kc9 kc10 kc11 kc12 kc13 hwb
    have HK_12 := hide (HK_11.out.trans hk (by simp))
    have HI_12 := hide (HI_11.out.kept hk (by simp))
    have HS_12 := hide (hk.blk HS_11.out (by simp))
    have HIY_12 := hide (HIY_11.out.kept hk (by simp))
    have HX_12 := hide (hk.blk HX_11.out (by simp))
    clear HK_11 HI_11 HS_11 HIY_11 HX_11 HG_11 HZ_11
    clear hk
    obtain ⟨kc0, kc1, kc2, kc3, kc4, kc5, kc6, kc7, kc8, kc9, kc10, kc11, kc12, kc13⟩ := cell14 HS_12.out
    obtain ⟨kx0, kx1, kx2, kx3, kx4, kx5, kx6, kx7, kx8, kx9, kx10, kx11, kx12, kx13⟩ := cell14 HX_12.out
    go_wp2_with fail
    refine (same_any R Y X _ HIY_12.out HI_12.out hYs).mono ?_
    rintro e wd ⟨rfl, hk⟩
    clear kc0 kc1 kc2 kc3 kc4 kc5 kc6 kc7 kc8 kc9 kc10 kc11 kc12 kc13 kx0 kx1 kx2 kx3 kx4 kx5 kx6 kx7 kx8 kx9 kx10 kx11 kx12 kx13
    have HK_13 := hide (HK_12.out.trans hk (by simp))
    clear HK_12 HS_12 HX_12 HI_12 HIY_12
    clear hk
    go_wp2_with fail
    refine (awake_any _).mono ?_
    rintro e we ⟨rfl, hk⟩
    have HKF := hide (HK_13.out.trans hk (by simp))
    clear hk
    go_wp2
    go_ret
    exact ⟨rfl, HKF.out.below (by simp)⟩

/-! ### the row's step, as the guide's skeleton has it -/
set_option maxRecDepth 100000 in
theorem lifted (os : Os) (started : os.Started) (H : Type) (enc : TypeId × Value → H) :
    ReturnsInHanded {} Try.checked os 5 .any (Rows.regionBackSpec.pre6 enc Try.prog Try.f5 Rows.regionBackRow.domain false) (Rows.regionBackSpec.post enc Try.prog Try.f5 false true false false) := by
  refine returnsInHanded_of_change (C := Try.checked) own started (by kernel_rfl) Try.func5
    (ChangeSpec.witness6 (enc := enc) (C := Try.checked) false ⟨#[], #[.agg #[.int .i64 0, .int .i64 0, .int .i64 0], .slice none 0 0, .int .i64 0, .int .i64 0, .int .u32 0], []⟩ 8 (by kernel_rfl) (by kernel_rfl) (by kernel_rfl) (by kernel_rfl)) ?_
  intro W base args ds gs before hval0 hW hcnd _
  have hval : ∀ (j : Nat) t v, Try.f5.params[j]? = some t → args[j]? = some v → Value.okWide Try.prog W .any base t v := hval0
  have hW' := hW
  obtain ⟨p, q, hA0, hV, rfl, hfz, hnd⟩ := hW
  have hA : DataW.TrodAll enc Try.prog W 0 (fun _ => true) true Try.f5.params.toList args.toList ds p := hA0
  rw [Try.params5] at hA hval
  obtain ⟨v0, vs0, d0, ds0, p0, q0, hargs, rfl, rfl, h0, r0⟩ := trodAll_cons hA
  obtain ⟨v1, vs1, d1, ds1, p1, q1, rfl, rfl, rfl, h1, r1⟩ := trodAll_cons r0
  obtain ⟨v2, vs2, d2, ds2, p2, q2, rfl, rfl, rfl, h2, r2⟩ := trodAll_cons r1
  obtain ⟨v3, vs3, d3, ds3, p3, q3, rfl, rfl, rfl, h3, r3⟩ := trodAll_cons r2
  obtain ⟨v4, vs4, d4, ds4, p4, q4, rfl, rfl, rfl, h4, r4⟩ := trodAll_cons r3
  obtain ⟨rfl, rfl, rfl⟩ := trodAll_nil r4
  obtain rfl : args = #[v0, v1, v2, v3, v4] := by cases args; simp_all
  obtain ⟨rfl, rfl⟩ := trodVars_none hV
  have k0 := h0
  have lt0 : ∀ x ∈ p0, x.block < W.heap.size := by obtain ⟨m, hm⟩ := k0; exact DataW.trod_lt m _ _ _ hm
  obtain ⟨xs0, rfl, hl0, hx0⟩ := agg_ints (ts := List.replicate 3 3) (n := 3) (by kernel_rfl) (by kernel_rfl) (fun u hu => by rw [List.eq_of_mem_replicate hu]; exact Try.underlying3) (by kernel_rfl) (hval 0 22 v0 rfl rfl)
  obtain ⟨a0_0, a0_1, a0_2, rfl⟩ := list3 hl0
  have w0_0 := hx0 a0_0 (by simp)
  have w0_1 := hx0 a0_1 (by simp)
  have w0_2 := hx0 a0_2 (by simp)
  obtain ⟨a1, len1, cap1, rfl⟩ := okWide_slice Try.underlying25 (hval 1 25 v1 rfl rfl)
  have k1 := h1
  have lt1 : ∀ x ∈ p1, x.block < W.heap.size := by obtain ⟨m, hm⟩ := k1; exact DataW.trod_lt m _ _ _ hm
  obtain ⟨z1, w1⟩ : ∃ zs, IsRow .i64 W a1 len1 cap1 zs := by
    obtain ⟨fuel, hf⟩ := h1
    rcases open_ints Try.underlying25 Try.underlying3 (by kernel_rfl) hf with ⟨hcs, _⟩ | ⟨x, l, c, zs, hcs, _, hl, hm, hz, _, hcell, hwz⟩
    · simp [Value.cells] at hcs
      obtain ⟨rfl, rfl, rfl⟩ := hcs
      exact ⟨[], .inl ⟨rfl, rfl, rfl, rfl⟩⟩
    · simp [Value.cells] at hcs
      obtain ⟨rfl, rfl, rfl⟩ := hcs
      exact ⟨zs, .inr ⟨_, rfl, hl, hm, by simpa using hz, hcell, hwz⟩⟩
  obtain ⟨a2, rfl, rfl, rfl, w2⟩ := open_int Try.underlying3 (hval 2 3 v2 rfl rfl) h2
  obtain ⟨a3, rfl, rfl, rfl, w3⟩ := open_int Try.underlying3 (hval 3 3 v3 rfl rfl) h3
  obtain ⟨a4, rfl, rfl, rfl, w4⟩ := open_int Try.underlying55 (hval 4 55 v4 rfl rfl) h4
  clear hA0 hval0
  refine (walk a0_0 a0_1 a0_2 a1 len1 cap1 z1 a2 a3 a4 W w0_0 w0_1 w0_2 w1 w2 w3 w4).mono fun e W' ⟨he, bel⟩ => ?_
  subst he
  exact ⟨_, rfl, _, _, _, [], _, [], hW', trodAll_mk1 (shut_bool Try.underlying4 _), (trodAll_cons_mk (Below.trod laidOut (by kernel_rfl) (of_decide_eq_true (by kernel_rfl)) k0 bel lt0) (trodAll_cons_mk (Below.trod laidOut (by kernel_rfl) (of_decide_eq_true (by kernel_rfl)) k1 bel lt1) (trodAll_cons_mk (shut_int Try.underlying3 w2) (trodAll_cons_mk (shut_int Try.underlying3 w3) (trodAll_cons_mk (shut_int Try.underlying55 w4) trodAll_mk0))))), rfl, bel.frame _, fun h => by cases h⟩

theorem over : Rows.regionBackRow.holds Try.pinned (OpenSpec.ofChange Rows.regionBackSpec) :=
  OpenClaim.holds_of_wide 5 Try.f5 rfl rfl rfl rfl rfl rfl rfl ⟨rfl, rfl, rfl, rfl, rfl⟩ rfl rfl rfl rfl rfl (by kernel_rfl) Try.func5 (by kernel_rfl)
    (of_decide_eq_true (by kernel_rfl)) (by unfold Func.isWrapper; first | (rw [if_pos (by decide +kernel)]; kernel_rfl) | (rw [if_neg (by decide +kernel)]; exact ⟨rfl, rfl⟩))
    (fun os started H enc _ => lifted os started H enc)

/-- The statement. -/
theorem proved : Rows.RegionBackSaid := over
#print axioms proved
end Go.Proofs.Ythacnlpdodlggaa.regionBack

