/- Package region: Encode. -/
import Derived.Test.YthacnlpdodlggaaRegionLay
namespace Go.Proofs.Ythacnlpdodlggaa.rg
set_option linter.unusedSimpArgs false
open Go.RowKit Go.Proofs.Ythacnlpdodlggaa.mem Go.Proofs.Ythacnlpdodlggaa.base Go.Proofs.Ythacnlpdodlggaa.row Go.Proofs.Ythacnlpdodlggaa.rowBack Go.Proofs.Ythacnlpdodlggaa.fill Go.Proofs.Ythacnlpdodlggaa.crc Go.Proofs.Ythacnlpdodlggaa.crcMath
open Go.Proofs.Ythacnlpdodlggaa.super (sumOf sumOf_len fits1 fits4 sum_fits)

theorem encode_bad (P : Value) (R : Rg) (X : Sl) (w : World) (h : ∀ w0, Kept [] w w0 → Calls Try.prog 11 #[P, R.val X] w0 fun e w' => e = .returned (.bool false) ∧ Kept [] w0 w') :
    Calls Try.prog 9 #[P, R.val X] w fun e w' => e = .returned (.tuple #[.slice none 0 0, .int .i64 1]) ∧ Kept [] w w' := by
  obtain ⟨w0, hw0⟩ : ∃ w0, w.alloc (.cells (R.cells X) 28) = w0 := ⟨_, rfl⟩
  have hk0 : Kept [] w w0 := by rw [← hw0]; exact (Kept.refl [] w).alloc _
  have hb0 : Blk w0 w.heap.size 28 (R.cells X) := by rw [← hw0]; exact Blk.new w _ _
  obtain ⟨g, hg0⟩ : ∃ g, w.heap.size = g := ⟨_, rfl⟩
  rw [hg0] at hb0
  unfold Rg.cells at hw0
  have HK0 := hide hk0
  have H := hide (h w0 hk0)
  obtain ⟨c0, c1, c2, c3, c4, c5, c6, c7, c8, c9, c10, c11, c12, c13⟩ := cell14 hb0
  clear hk0 hb0 h
  unfold Rg.val at H ⊢
  go_enter Try.func9, Try.ntmps9
  go_wp2_with fail
  refine H.out.mono ?_
  rintro e w1 ⟨rfl, hk⟩
  have HK1 := hide (HK0.out.trans hk (by simp))
  clear hk c0 c1 c2 c3 c4 c5 c6 c7 c8 c9 c10 c11 c12 c13 H
  go_wp2
  go_ret2
  exact ⟨rfl, HK1.out⟩
theorem encode_nil (R : Rg) (X : Sl) (w : World) :
    Calls Try.prog 9 #[.pointer none, R.val X] w fun e w' => e = .returned (.tuple #[.slice none 0 0, .int .i64 1]) ∧ Kept [] w w' :=
  encode_bad _ R X w fun w0 _ => may_nil R X w0
theorem encode_no (p : Nat) (D : Dv) (R : Rg) (X : Sl) (w : World) (hg : GD w p D) (h : RgIn w [] X R) (hs : X.small) (hm : R.may D = false) :
    Calls Try.prog 9 #[.pointer (some ⟨p, 0, none⟩), R.val X] w fun e w' => e = .returned (.tuple #[.slice none 0 0, .int .i64 1]) ∧ Kept [] w w' :=
  encode_bad _ R X w fun w0 k => (may_any p D R X w0 (hg.kept k) (h.kept k (by simp)) hs).mono fun _ _ ⟨h1, h2⟩ => ⟨by rw [h1, hm], h2⟩

theorem take_zeros {D : Dv} {R : Rg} (h : D.ok) (hg : Good D R) : ((rowF (64 * D.r) R.head).take (((64 * D.r : Nat) : Int) - (R.head.length : Int) - 4)).2.2 = rowF (64 * D.r) (R.body D) := by
  have hbd := h.bd
  have hl := R.head_len
  have hul := hg.ul
  have hbl := Rg.body_len h hg
  have e : (rowF (64 * D.r) R.head).take (((64 * D.r : Nat) : Int) - (R.head.length : Int) - 4) = (((rowF (64 * D.r) R.head).bs.drop R.head.length).take ((((64 * D.r : Nat) : Int) - (R.head.length : Int) - 4)).toNat, true, ⟨(rowF (64 * D.r) R.head).bs, R.head.length + ((((64 * D.r : Nat) : Int) - (R.head.length : Int) - 4)).toNat⟩) := if_pos ⟨by omega, by
    rw [rowF_len _ _ (by omega)]
    show ((R.head.length : Nat) : Int) + _ ≤ _
    omega⟩
  rw [e]
  refine Row.same ⟨?_, ?_⟩
  · show R.head ++ List.replicate (64 * D.r - R.head.length) 0 = R.body D ++ List.replicate (64 * D.r - (R.body D).length) 0
    rw [hbl]
    unfold Rg.body
    rw [List.append_assoc, List.replicate_append_replicate]
    congr 2
    omega
  · show R.head.length + _ = (R.body D).length
    rw [hbl]
    omega
theorem rowF_take (n : Nat) (a : List UInt8) (m : Nat) (h : a.length = m) : (rowF n a).bs.take m = a := List.take_left' h

set_option maxRecDepth 100000 in
set_option maxHeartbeats 1000000 in
theorem encode_yes (p : Nat) (D : Dv) (R : Rg) (X : Sl) (w : World) (hg : GD w p D) (h : RgIn w [] X R) (hs : X.small) (hm : R.may D = true) :
    Calls Try.prog 9 #[.pointer (some ⟨p, 0, none⟩), R.val X] w fun e w' => ∃ A c', e = .returned (.tuple #[.slice A (64 * D.r) c', .int .i64 0]) ∧ NewBytes w w' A c' (R.bytes D) ∧ Kept [] w w' := by
  obtain ⟨w0, hw0⟩ : ∃ w0, w.alloc (.cells (R.cells X) 28) = w0 := ⟨_, rfl⟩
  have hk0 : Kept [] w w0 := by rw [← hw0]; exact (Kept.refl [] w).alloc _
  have hb0 : Blk w0 w.heap.size 28 (R.cells X) := by rw [← hw0]; exact Blk.new w _ _
  obtain ⟨g, hg0⟩ : ∃ g, w.heap.size = g := ⟨_, rfl⟩
  rw [hg0] at hb0
  unfold Rg.cells at hw0
  have hd := hg.dv
  have hgo := (R.may_iff D).1 hm
  have hbd := hd.bd
  have HD := hide hd
  have HGO := hide hgo
  have HM := hide hm
  have HG0 := hide (hg.kept hk0)
  have HX0 := hide (h.kept hk0 (by simp))
  have HB0 := hide hb0
  have HK0 := hide hk0
  have HTZ := hide (take_zeros hd hgo)
  have HBL := hide (Rg.body_len hd hgo)
  have HFU := hide (show (rowF (64 * D.r) (R.body D ++ sumOf (R.body D))).bs = R.bytes D from rowF_full _ _ (Rg.bytes_len hd hgo))
  have HBY := hide (Rg.bytes_len hd hgo)
  have hul : R.us.length = D.n := hgo.ul
  obtain ⟨N, hN⟩ : ∃ N, 64 * D.r = N := ⟨_, rfl⟩
  have HN := hide hN
  have hNr : (N : Int) = 64 * (D.r : Int) := by omega
  have hr4 : D.r ≤ 4 := hbd.2.1
  have hr2 : 2 ≤ D.r := hbd.1
  have h43 := hbd.2.2.2.2
  obtain ⟨c0, c1, c2, c3, c4, c5, c6, c7, c8, c9, c10, c11, c12, c13⟩ := cell14 hb0
  rw [hN] at HTZ HBL HFU HBY h43 ⊢
  have hN256 : N ≤ 256 := by omega
  have hN128 : 128 ≤ N := by omega
  have HHL : Hid (R.head.length + 4 ≤ N) := hide (by rw [R.head_len, hul]; omega)
  clear hul h43 hk0 hb0 hg h hm hd hgo hbd hN
  unfold Rg.val
  go_enter Try.func9, Try.ntmps9
  go_wp2_with fail
  refine (may_any p D R X _ HG0.out HX0.out hs).mono ?_
  rintro e w1 ⟨rfl, hk⟩
  rw [HM.out]
  have HG1 := hide (HG0.out.kept hk)
  have HX1 := hide (HX0.out.kept hk (by simp))
  have HB1 := hide (hk.blk HB0.out (by simp))
  have HK1 := hide (HK0.out.trans hk (by simp))
  clear hk c0 c1 c2 c3 c4 c5 c6 c7 c8 c9 c10 c11 c12 c13 HG0 HX0 HB0 HK0 hw0
  go_wp2_with fail
  refine (glen p D _ HG1.out).mono ?_
  rintro e w2 ⟨rfl, hk⟩
  have HX2 := hide (HX1.out.kept hk (by simp))
  have HB2 := hide (hk.blk HB1.out (by simp))
  have HK2 := hide (HK1.out.trans hk (by simp))
  clear hk HG1 HX1 HB1 HK1
  have g1 : IntKind.i64.wrap (64 * (D.r : Int)) = 64 * (D.r : Int) := IntWalk.i64_in _ (by omega)
  go_wp2_with fail
  refine (new_at (64 * (D.r : Int)) _ (by omega) (by omega)).mono ?_
  rintro e w3 ⟨P, b, cap, A, rfl, hp, hb, hb3, hr, hk⟩
  rw [row_new N _ (by omega)] at hr
  have hp3 := hr.lt
  have hwg : w.heap.size ≤ w2.heap.size := HK2.out.size
  have HR3 := hide hr
  have HX3 := hide (HX2.out.far hk (S := [P, b]) (by simp; omega))
  have HB3 := hide (hk.blk HB2.out (by simp))
  have HK3 := hide (HK2.out.trans hk (by simp))
  have hgl := HB2.out.lt
  have hgP : g < P := by omega
  have hgb : g < b := by omega
  have hPw : w.heap.size ≤ P := by omega
  have hbw : w.heap.size ≤ b := by omega
  clear hr hk HX2 HB2 HK2 g1 hp hb hNr
  obtain ⟨c0, c1, c2, c3, c4, c5, c6, c7, c8, c9, c10, c11, c12, c13⟩ := cell14 HB3.out
  go_wp2_with fail
  refine (lay_any P b cap A D R X _ HD.out HGO.out (by rw [HN.out]; exact HR3.out) hb3 HX3.out).mono ?_
  rintro e w4 ⟨rfl, hr, hk⟩
  rw [HN.out] at hr
  have HR4 := hide hr
  have HK4 := hide (HK3.out.trans hk (by simp; omega))
  clear hr hk HX3 HB3 HK3 HR3 c0 c1 c2 c3 c4 c5 c6 c7 c8 c9 c10 c11 c12 c13
  go_wp2_with fail
  refine (left_eq P b cap A _ ((N : Int) - (R.head.length : Int)) _ HR4.out (by rw [rowF_len _ _ (by have := HHL.out; omega)]; rfl)).mono ?_
  rintro e w5 ⟨rfl, k5, rfl⟩
  have hhl := HHL.out
  have g2 : IntKind.i64.wrap ((N : Int) - (R.head.length : Int) - 4) = (N : Int) - (R.head.length : Int) - 4 := IntWalk.i64_in _ (by omega)
  obtain ⟨hl, hhl2⟩ : ∃ hl, R.head.length = hl := ⟨_, rfl⟩
  rw [hhl2] at hhl g2 HTZ ⊢
  clear hhl2
  go_wp2_with fail
  refine (take_at P b cap A _ ((N : Int) - (hl : Int) - 4) _ (HR4.out.drewN k5)).mono ?_
  rintro e w6 ⟨A6, c6, rfl, _, hr, hk⟩
  rw [HTZ.out] at hr
  have HR6 := hide hr
  have HK6 := hide ((HK4.out.drewN k5).trans hk (by simp; omega))
  clear hr hk HR4 HK4 g2
  go_wp2_with fail
  refine (bytes_at P b cap A _ _ HR6.out).mono ?_
  rintro e w7 ⟨A7, c7, rfl, hn7, hk⟩
  have hln : (rowF N (R.body D)).bs.length = N := rowF_len _ _ (by have := HBL.out; omega)
  rw [hln]
  have hsm := rowF_take N (R.body D) (N - 4) HBL.out
  have hv7 := (hn7.vals (S := []) (by simp)).first (N - 4)
  rw [← List.map_take, hsm] at hv7
  have h6p := HR6.out.lt
  have hle7 : N ≤ c7 := by
    obtain ⟨b7, _, _, ha7⟩ := hn7.pos (by rw [hln]; omega)
    have := ha7.len
    omega
  have HV7 := hide hv7
  have HR7 := hide (HR6.out.kept hk (by simp) (by simp))
  have HK7 := hide (HK6.out.trans hk (by simp))
  have h7b : b < w7.heap.size := (HR7.out.2.1 (fun e => by have h := congrArg List.length e; rw [hln] at h; simp at h; omega)).lt
  clear hn7 hk hv7 hsm hln HR6 HK6
  obtain ⟨bd, hbd⟩ : ∃ bd, R.body D = bd := ⟨_, rfl⟩
  rw [hbd] at HBL HV7 HR7 HFU
  clear hbd
  have e4 : (N : Int) - 4 = ((N - 4 : Nat) : Int) := by omega
  obtain ⟨M, hM⟩ : ∃ M, N - 4 = M := ⟨_, rfl⟩
  have hMN : N = M + 4 := by omega
  have HMN := hide hMN
  have hMle : M ≤ c7 := by omega
  have g3 : IntKind.i64.wrap ((N : Int) - 4) = (M : Int) := by rw [← hM, ← e4]; exact IntWalk.i64_in _ (by omega)
  rw [hM] at HBL
  clear e4 hM hMN
  go_wp2_with fail
  refine (sum_any (some ⟨w7.heap.size, 0, none⟩) 1 1 [bd] _ (parts_one _ _ 35 A7 M c7 bd (Blk.new w7 _ _) HBL.out (by have := HMN.out; omega) (HV7.out.kept ((Kept.refl [] w7).alloc _) (by simp))) rfl (by omega)).mono ?_
  rintro e w8 ⟨rfl, rfl⟩
  have HK8 := hide (HK7.out.alloc (.cells #[.slice A7 M c7] 35))
  have HR8 := hide (HR7.out.kept (S := []) ((Kept.refl _ w7).alloc (.cells #[.slice A7 M c7] 35)) (by simp) (by simp))
  have hs8 : w7.heap.size < (w7.alloc (.cells #[.slice A7 M c7] 35)).heap.size := by simp
  have h7 := HK7.out.size
  have h7p := HR7.out.lt
  generalize w7.alloc (.cells #[.slice A7 M c7] 35) = w8 at *
  rw [show [bd].flatten = bd by simp]
  go_wp2_with fail
  refine (put_len P b cap A _ 4 (some ⟨w8.heap.size, 0, none⟩) [(more 0 bd : Int)] 1 1 _ rfl (HR8.out.kept (S := []) ((Kept.refl _ w8).alloc _) (by simp) (by simp)) (base.vals_one w8 [P, b] _ _ (by simp; omega)) (by omega)).mono ?_
  rintro e w9 ⟨rfl, hr, hk⟩
  rw [show ((4 : Int)) = ((4 : Nat) : Int) by rfl, rowF_put N bd 4 _ rfl (by simpa using sum_fits bd) (by have := HBL.out; have := HMN.out; simp; omega)] at hr
  have HR9 := hide hr
  have HK9 := hide (HK8.out.trans (((Kept.refl _ w8).alloc _).trans hk (fun i hi => .inl hi)) (by simp; omega))
  clear hr hk HR8 HK8
  go_wp2_with fail
  refine (bytes_at P b cap A _ _ HR9.out).mono ?_
  rintro e w10 ⟨A10, c10, rfl, hn10, hk⟩
  have hf : (rowF N (bd ++ bytesOf 4 [(more 0 bd : Int)])).bs = R.bytes D := HFU.out
  rw [hf] at hn10 ⊢
  rw [HBY.out]
  have HK10 := hide (HK9.out.trans hk (by simp))
  have HN10 := hide (hn10.mono HK9.out.size)
  clear hn10 hk hf
  go_wp2
  go_ret2
  exact ⟨A10, c10, rfl, HN10.out, HK10.out⟩

theorem encode_any (p : Nat) (D : Dv) (R : Rg) (X : Sl) (w : World) (hg : GD w p D) (h : RgIn w [] X R) (hs : X.small) :
    Calls Try.prog 9 #[.pointer (some ⟨p, 0, none⟩), R.val X] w fun e w' => ∃ A n c', e = .returned (.tuple #[.slice A n c', .int .i64 (encode D R).2]) ∧ n = (encode D R).1.length ∧ NewBytes w w' A c' (encode D R).1 ∧ Kept [] w w' := by
  by_cases hm : R.may D = true
  · have e : encode D R = (R.bytes D, 0) := if_pos hm
    rw [e]
    exact (encode_yes p D R X w hg h hs hm).mono fun _ _ ⟨A, c, h1, h2, h3⟩ => ⟨A, 64 * D.r, c, h1, (Rg.bytes_len hg.dv ((R.may_iff D).1 hm)).symm, h2, h3⟩
  · have e : encode D R = ([], 1) := if_neg hm
    rw [e]
    exact (encode_no p D R X w hg h hs ((Bool.not_eq_true _).mp hm)).mono fun _ _ ⟨h1, h3⟩ => ⟨none, 0, 0, h1, rfl, .inl ⟨rfl, rfl, rfl⟩, h3⟩
end Go.Proofs.Ythacnlpdodlggaa.rg
