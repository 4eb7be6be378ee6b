/- The laws' own example. -/
import Derived.Test.YtlhomheolcmocaaHeadFitsAt
namespace Go.Proofs.Ytlhomheolcmocaa.hd
open Go.RowKit Go.Proofs.Ytlhomheolcmocaa.mem Go.Proofs.Ytlhomheolcmocaa.base Go.Proofs.Ytlhomheolcmocaa.row Go.Proofs.Ytlhomheolcmocaa.rowBack Go.Proofs.Ytlhomheolcmocaa.fill Go.Proofs.Ytlhomheolcmocaa.crc Go.Proofs.Ytlhomheolcmocaa.crcMath

def exH : Hd := ⟨3, 2, 9, 77⟩
theorem ex_may : exH.may = true := by decide
theorem ex_fits : fits exH.bytes 3 9 77 1 = true := by rw [fits_bytes exH ex_may]; rfl
theorem ex_fits_no : fits exH.bytes 3 8 77 1 = false := by rw [fits_bytes exH ex_may]; rfl

set_option maxRecDepth 100000 in
set_option maxHeartbeats 1000000 in
theorem awake_any (w : World) : Calls Try.prog 6 #[] w fun e w' => e = .returned (.bool true) ∧ Kept [] w w' := by
  obtain ⟨w1, hw1⟩ : ∃ w1, w.alloc (.cells #[.int .i64 3, .int .i64 2, .int .i64 9, .int .i64 77] 23) = w1 := ⟨_, rfl⟩
  have hb1 : Blk w1 w.heap.size 23 exH.cells := by rw [← hw1]; exact Blk.new w _ _
  have hk1 : Kept [] w w1 := by rw [← hw1]; exact (Kept.refl [] w).alloc _
  obtain ⟨g, hg⟩ : ∃ g, w.heap.size = g := ⟨_, rfl⟩
  rw [hg] at hb1
  have HB1 := hide hb1
  have HK1 := hide hk1
  obtain ⟨a0, a1, a2, a3⟩ := Hd.cell_at hb1
  clear hb1 hk1
  unfold exH at a0 a1 a2 a3
  dsimp only at a0 a1 a2 a3
  go_enter Try.func6, Try.ntmps6
  go_wp2_with fail
  refine (encode_yes exH _ ex_may).mono ?_
  rintro e w2 ⟨A2, c2, rfl, hn, hk⟩
  have HK2 := hide (HK1.out.trans hk (by simp))
  have HB2 := hide (hk.blk HB1.out (by simp))
  have hv := hn.vals (S := []) (by simp)
  have hA := hn.nil0
  obtain ⟨b2, rfl, _, harr⟩ := hn.pos (by rw [exH.bytes_len]; omega)
  clear hk hn hw1 HK1 HB1 a0 a1 a2 a3
  go_wp2_with fail
  refine (decode_any (some ⟨b2, 0, none⟩) 64 c2 exH.bytes _ hv exH.bytes_len hA (by omega)).mono ?_
  rintro e w3 ⟨rfl, hk⟩
  rw [decode_bytes exH ex_may]
  have HK3 := hide (HK2.out.trans hk (by simp))
  have HB3 := hide (hk.blk HB2.out (by simp))
  have HV3 := hide (hv.kept hk (by simp))
  have HR3 := hide (harr.kept hk (by simp))
  have HA := hide hA
  clear hk hv hA harr HK2 HB2
  simp only [exH, Hd.val]
  obtain ⟨w4, hw4⟩ : ∃ w4, w3.alloc (.cells #[.int .i64 3, .int .i64 2, .int .i64 9, .int .i64 77] 23) = w4 := ⟨_, rfl⟩
  have hk4 : Kept [] w3 w4 := by rw [← hw4]; exact (Kept.refl [] w3).alloc _
  obtain ⟨x, hx⟩ : ∃ x, w3.heap.size = x := ⟨_, rfl⟩
  have HX4 : Hid (Blk w4 x 23 exH.cells) := by rw [← hw4, ← hx]; exact hide (Blk.new w3 _ _)
  have HK4 := hide (HK3.out.trans hk4 (by simp))
  have HB4 := hide (hk4.blk HB3.out (by simp))
  have HV4 := hide (HV3.out.kept hk4 (by simp))
  have HR4 := hide (HR3.out.kept hk4 (by simp))
  obtain ⟨w5, hw5⟩ : ∃ w5, w4.alloc (.cells (madeCells #[.int .u8 0] 64) 5) = w5 := ⟨_, rfl⟩
  have hk5 : Kept [] w4 w5 := by rw [← hw5]; exact (Kept.refl [] w4).alloc _
  obtain ⟨z, hz⟩ : ∃ z, w4.heap.size = z := ⟨_, rfl⟩
  have hv5 : Vals w5 [] (some ⟨w4.heap.size, 0, none⟩) ((List.replicate 64 0).map B) := by rw [← hw5]; exact base.vals_made w4 [] 64 (by simp)
  have HK5 := hide (HK4.out.trans hk5 (by simp))
  have HB5 := hide (hk5.blk HB4.out (by simp))
  have HX5 := hide (hk5.blk HX4.out (by simp))
  have HV5 := hide (HV4.out.kept hk5 (by simp))
  have HR5 := hide (HR4.out.kept hk5 (by simp))
  rw [hz] at hv5
  have HZ5 := hide hv5
  clear hk4 hk5 hv5 HK3 HB3 HV3 HK4 HB4 HV4 HX4 HR3 HR4
  have hmk := run_make_row' (P := Try.prog) 24 5 (.int .u8 0) 1 (by kernel_rfl) (by kernel_rfl) rfl .i64 .i64 64 (by omega) (by omega) w4
  rw [hw5, hz, show ((64 : Nat) : Int) = 64 from rfl] at hmk
  go_wp2_with fail
  refine (decode_any (some ⟨z, 0, none⟩) 64 64 (List.replicate 64 0) _ HZ5.out List.length_replicate (by simp) (by omega)).mono ?_
  rintro e w6 ⟨rfl, hk⟩
  rw [decode_start (List.replicate 64 0) (by decide)]
  have HK6 := hide (HK5.out.trans hk (by simp))
  have HB6 := hide (hk.blk HB5.out (by simp))
  have HX6 := hide (hk.blk HX5.out (by simp))
  have HR6 := hide (HR5.out.kept hk (by simp))
  have HV6 := hide (HV5.out.kept hk (by simp))
  clear hmk hk HK5 HB5 HX5 HR5 HV5 HZ5 hw4 hw5
  simp only [Hd.zero, Hd.val]
  have hk9 : Kept [] w6 (w6.alloc (.cells #[.int .i64 0, .int .i64 0, .int .i64 0, .int .i64 0] 23)) := (Kept.refl [] w6).alloc _
  have HK9 := hide (HK6.out.trans hk9 (by simp))
  have HV9 := hide (HV6.out.kept hk9 (by simp))
  obtain ⟨a0, a1, a2, a3⟩ := Hd.cell_at (hk9.blk HB6.out (by simp))
  obtain ⟨x0, x1, x2, x3⟩ := Hd.cell_at (hk9.blk HX6.out (by simp))
  have r1 := (HR6.out.kept hk9 (by simp)).at_ (bytes_start exH).2
  unfold B at r1
  unfold exH at a0 a1 a2 a3 x0 x1 x2 x3
  dsimp only at a0 a1 a2 a3 x0 x1 x2 x3
  clear hk9 HK6 HB6 HX6 HR6 HV6
  go_wp2_with fail
  refine (fits_any (some ⟨b2, 0, none⟩) 64 c2 exH.bytes 3 5 9 77 1 _ HV9.out exH.bytes_len HA.out (by omega)).mono ?_
  rintro e w10 ⟨rfl, hk⟩
  rw [ex_fits]
  have HK10 := hide (HK9.out.trans hk (by simp))
  have HV10 := hide (HV9.out.kept hk (by simp))
  clear hk HV9 HK9 a0 a1 a2 a3 x0 x1 x2 x3 r1
  go_wp2_with fail
  refine (fits_any (some ⟨b2, 0, none⟩) 64 c2 exH.bytes 3 0 8 77 1 _ HV10.out exH.bytes_len HA.out (by omega)).mono ?_
  rintro e w11 ⟨rfl, hk⟩
  rw [ex_fits_no]
  have HK11 := hide (HK10.out.trans hk (by simp))
  clear hk
  go_wp2
  go_ret
  exact ⟨rfl, HK11.out⟩
end Go.Proofs.Ytlhomheolcmocaa.hd
