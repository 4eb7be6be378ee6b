/- The laws' own example; made. -/
import Derived.Test.YtbglcnpkajkkpaaSuperChoose
namespace Go.Proofs.Ytbglcnpkajkkpaa.super
open Go.RowKit Go.Proofs.Ytbglcnpkajkkpaa.mem Go.Proofs.Ytbglcnpkajkkpaa.base Go.Proofs.Ytbglcnpkajkkpaa.row Go.Proofs.Ytbglcnpkajkkpaa.rowBack Go.Proofs.Ytbglcnpkajkkpaa.fill Go.Proofs.Ytbglcnpkajkkpaa.crc Go.Proofs.Ytbglcnpkajkkpaa.crcMath

def exS : Su := ⟨3, 8, 24, 7, 3⟩
theorem ex_may : exS.may = true := by decide
theorem decode_start (bs : List UInt8) (h : bs[0]? ≠ some 75) : decode bs = (Su.zero, 2) :=
  decode_no bs fun S _ e => h (by rw [← e]; exact (bytes_start S).1)
theorem ex_choose : choose (List.replicate 64 0) exS.bytes = (exS, 1, 0) := by
  unfold choose
  rw [decode_bytes exS ex_may, decode_start (List.replicate 64 0) (by decide)]
  rfl
theorem no_choose : choose [] [] = (Su.zero, 0, 2) := by
  unfold choose
  rw [decode_start [] (by decide)]
  rfl

set_option maxRecDepth 100000 in
set_option maxHeartbeats 1000000 in
theorem awake_any (w : World) : Calls Try.prog 7 #[] w fun e w' => e = .returned (.bool true) ∧ Kept [] w w' := by
  obtain ⟨w1, hw1⟩ : ∃ w1, w.alloc (.cells #[.int .i64 3, .int .i64 8, .int .i64 24, .int .i64 7, .int .i64 3] 25) = w1 := ⟨_, rfl⟩
  have hb1 : Blk w1 w.heap.size 25 exS.cells := by rw [← hw1]; exact Blk.new w _ _
  have hk1 : Kept [] w w1 := by rw [← hw1]; exact (Kept.refl [] w).alloc _
  obtain ⟨g, hg⟩ : ∃ g, w.heap.size = g := ⟨_, rfl⟩
  rw [hg] at hb1
  have HB1 := hide hb1
  have HK1 := hide hk1
  obtain ⟨a0, a1, a2, a3, a4⟩ := Su.cell_at hb1
  have he : ∃ v, v = exS.val := ⟨_, rfl⟩
  clear hb1 hk1 he
  unfold exS at a0 a1 a2 a3 a4
  dsimp only at a0 a1 a2 a3 a4
  go_enter Try.func7, Try.ntmps7
  go_wp2_with fail
  refine (encode_yes exS _ ex_may).mono ?_
  rintro e w2 ⟨A2, c2, rfl, hn, hk⟩
  have HK2 := hide (HK1.out.trans hk (by simp))
  have HB2 := hide (hk.blk HB1.out (by simp))
  have HN2 := hide (hn.mono HK1.out.size)
  have hv := hn.vals (S := []) (by simp)
  have hA := hn.nil0
  obtain ⟨b2, rfl, _, harr⟩ := hn.pos (by rw [exS.bytes_len]; omega)
  clear hk hn hw1 HK1 a0 a1 a2 a3 a4
  go_wp2_with fail
  refine (decode_any (some ⟨b2, 0, none⟩) 64 c2 exS.bytes _ hv exS.bytes_len hA (by omega)).mono ?_
  rintro e w3 ⟨rfl, hk⟩
  rw [decode_bytes exS ex_may]
  have HK3 := hide (HK2.out.trans hk (by simp))
  have HB3 := hide (hk.blk HB2.out (by simp))
  have HV3 := hide (hv.kept hk (by simp))
  have HR3 := hide (harr.kept hk (by simp))
  have HA := hide hA
  have hgl := HB3.out.lt
  clear hk hv hA harr HK2 HB2
  simp only [exS, Su.val]
  obtain ⟨w4, hw4⟩ : ∃ w4, w3.alloc (.cells #[.int .i64 3, .int .i64 8, .int .i64 24, .int .i64 7, .int .i64 3] 25) = w4 := ⟨_, rfl⟩
  have hk4 : Kept [] w3 w4 := by rw [← hw4]; exact (Kept.refl [] w3).alloc _
  obtain ⟨x, hx⟩ : ∃ x, w3.heap.size = x := ⟨_, rfl⟩
  have HX4 : Hid (Blk w4 x 25 exS.cells) := by rw [← hw4, ← hx]; exact hide (Blk.new w3 _ _)
  have HK4 := hide (HK3.out.trans hk4 (by simp))
  have HB4 := hide (hk4.blk HB3.out (by simp))
  have HV4 := hide (HV3.out.kept hk4 (by simp))
  have HR4 := hide (HR3.out.kept hk4 (by simp))
  obtain ⟨w5, hw5⟩ : ∃ w5, w4.alloc (.cells (madeCells #[.int .u8 0] 64) 5) = w5 := ⟨_, rfl⟩
  have hk5 : Kept [] w4 w5 := by rw [← hw5]; exact (Kept.refl [] w4).alloc _
  obtain ⟨z, hz⟩ : ∃ z, w4.heap.size = z := ⟨_, rfl⟩
  have hv5 : Vals w5 [] (some ⟨w4.heap.size, 0, none⟩) ((List.replicate 64 0).map B) := by rw [← hw5]; exact base.vals_made w4 [] 64 (by simp)
  have HK5 := hide (HK4.out.trans hk5 (by simp))
  have HB5 := hide (hk5.blk HB4.out (by simp))
  have HX5 := hide (hk5.blk HX4.out (by simp))
  have HV5 := hide (HV4.out.kept hk5 (by simp))
  have HR5 := hide (HR4.out.kept hk5 (by simp))
  rw [hz] at hv5
  have HZ5 := hide hv5
  clear hk4 hk5 hv5 HK3 HB3 HV3 HK4 HB4 HV4 HX4 HR3 HR4
  have hmk := run_make_row' (P := Try.prog) 26 5 (.int .u8 0) 1 (by kernel_rfl) (by kernel_rfl) rfl .i64 .i64 64 (by omega) (by omega) w4
  rw [hw5, hz, show ((64 : Nat) : Int) = 64 from rfl] at hmk
  go_wp2_with fail
  refine (choose_any (some ⟨z, 0, none⟩) (some ⟨b2, 0, none⟩) 64 64 64 c2 (List.replicate 64 0) exS.bytes _ HZ5.out List.length_replicate (by simp) (by omega) HV5.out exS.bytes_len (by simp) (by omega)).mono ?_
  rintro e w6 ⟨rfl, hk⟩
  rw [ex_choose]
  have HK6 := hide (HK5.out.trans hk (by simp))
  have HB6 := hide (hk.blk HB5.out (by simp))
  have HX6 := hide (hk.blk HX5.out (by simp))
  have HR6 := hide (HR5.out.kept hk (by simp))
  clear hmk hk HK5 HB5 HX5 HR5 HV5 HZ5 hw4 hw5
  simp only [exS, Su.val]
  obtain ⟨w7, hw7⟩ : ∃ w7, w6.alloc (.cells #[.int .i64 3, .int .i64 8, .int .i64 24, .int .i64 7, .int .i64 3] 25) = w7 := ⟨_, rfl⟩
  have hk7 : Kept [] w6 w7 := by rw [← hw7]; exact (Kept.refl [] w6).alloc _
  obtain ⟨y, hy⟩ : ∃ y, w6.heap.size = y := ⟨_, rfl⟩
  have HY7 : Hid (Blk w7 y 25 exS.cells) := by rw [← hw7, ← hy]; exact hide (Blk.new w6 _ _)
  have HK7 := hide (HK6.out.trans hk7 (by simp))
  have HB7 := hide (hk7.blk HB6.out (by simp))
  have HX7 := hide (hk7.blk HX6.out (by simp))
  have HR7 := hide (HR6.out.kept hk7 (by simp))
  clear hk7 HK6 HB6 HX6 HR6
  go_wp2_with fail
  refine (choose_any none none 0 0 0 0 [] [] _ (Vals.nil _ _ _) rfl (by simp) (by omega) (Vals.nil _ _ _) rfl (by simp) (by omega)).mono ?_
  rintro e w8 ⟨rfl, hk⟩
  rw [no_choose]
  have HK8 := hide (HK7.out.trans hk (by simp))
  have HB8 := hide (hk.blk HB7.out (by simp))
  have HX8 := hide (hk.blk HX7.out (by simp))
  have HY8 := hide (hk.blk HY7.out (by simp))
  have HR8 := hide (HR7.out.kept hk (by simp))
  clear hk HK7 HB7 HX7 HY7 HR7 hw7
  simp only [Su.zero, Su.val]
  have hk9 : Kept [] w8 (w8.alloc (.cells #[.int .i64 0, .int .i64 0, .int .i64 0, .int .i64 0, .int .i64 0] 25)) := (Kept.refl [] w8).alloc _
  have HK9 := hide (HK8.out.trans hk9 (by simp))
  obtain ⟨a0, a1, a2, a3, a4⟩ := Su.cell_at (hk9.blk HB8.out (by simp))
  obtain ⟨x0, x1, x2, x3, x4⟩ := Su.cell_at (hk9.blk HX8.out (by simp))
  obtain ⟨y0, y1, y2, y3, y4⟩ := Su.cell_at (hk9.blk HY8.out (by simp))
  have r0 := (HR8.out.kept hk9 (by simp)).at_ (bytes_start exS).1
  have r1 := (HR8.out.kept hk9 (by simp)).at_ (bytes_start exS).2
  unfold B at r0 r1
  unfold exS at a0 a1 a2 a3 a4 x0 x1 x2 x3 x4 y0 y1 y2 y3 y4
  dsimp only at a0 a1 a2 a3 a4 x0 x1 x2 x3 x4 y0 y1 y2 y3 y4
  clear hk9 HK8 HB8 HX8 HY8 HR8
  go_wp2_with fail
  refine (may_any exS _).mono ?_
  rintro e w10 ⟨rfl, hk⟩
  rw [ex_may]
  have HK10 := hide (HK9.out.trans hk (by simp))
  clear hk
  go_wp2
  go_ret
  exact ⟨rfl, HK10.out⟩
end Go.Proofs.Ytbglcnpkajkkpaa.super
