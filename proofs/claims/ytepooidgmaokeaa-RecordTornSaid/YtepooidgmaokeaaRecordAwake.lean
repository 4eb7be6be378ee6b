/- The laws' own example. -/
import Derived.Test.YtepooidgmaokeaaRecordDecode
import Derived.Test.YtepooidgmaokeaaRecordSize
import Derived.Test.YtepooidgmaokeaaRecordAlike
import Derived.Test.YtepooidgmaokeaaAlike
namespace Go.Proofs.Ytepooidgmaokeaa.record
open Go.RowKit Go.Proofs.Ytepooidgmaokeaa.mem Go.Proofs.Ytepooidgmaokeaa.base Go.Proofs.Ytepooidgmaokeaa.row Go.Proofs.Ytepooidgmaokeaa.rowBack Go.Proofs.Ytepooidgmaokeaa.fill Go.Proofs.Ytepooidgmaokeaa.crc Go.Proofs.Ytepooidgmaokeaa.crcMath Go.Proofs.Ytepooidgmaokeaa.super Go.Proofs.Ytepooidgmaokeaa.item

def exI : List It := [⟨1, 3, 0, 0⟩, ⟨3, 0, 0, 1⟩]
def exR : Rc := ⟨2, 1, 0, exI, [fillOf 5]⟩
theorem exI_may : allMay exI := by decide
theorem exI_count : count exI = 1 := by decide
theorem exR_ok : exR.ok := ⟨by decide, by decide, by decide, by decide, exI_may, exI_count, fun b hb => by
  simp only [exR, List.mem_cons, List.not_mem_nil, or_false] at hb
  rw [hb]
  exact fillOf_length _⟩
theorem exR_encode : encode exR = (exR.bytes, (exR.sum : Int), 0) := if_pos (exR.may_iff.2 exR_ok)
theorem exR_decode : decode exR.bytes = (exR, (exR.sum : Int), 0) := decode_bytes exR_ok
theorem exR_len : exR.bytes.length = 128 := by rw [exR.bytes_len exR_ok]; rfl
theorem exR_lenOf : lenOf exR = 2 := by rw [lenOf_ok exR_ok]; rfl
theorem exR_size : sizeOf (exR.bytes.take 64) = 2 := by rw [size_bytes exR_ok]; rfl
theorem exR_start : exR.bytes[0]? = some 75 ∧ exR.bytes[1]? = some 82 := by
  have h := first_start exR
  have hl := exR.first_len (by decide)
  unfold Rc.bytes
  rw [List.getElem?_append_left (by omega), List.getElem?_append_left (by omega)]
  exact h
theorem zero_encode : encode Rc.zero = ([], 0, 1) := if_neg (by decide)

set_option maxRecDepth 100000 in
set_option maxHeartbeats 2000000 in
theorem awake_any (w : World) : Calls Try.prog 9 #[] w fun e w' => e = .returned (.bool true) ∧ Kept [] w w' := by
  obtain ⟨w1, hw1⟩ : ∃ w1, w.alloc (.cells (valsOf exI).toArray 52) = w1 := ⟨_, rfl⟩
  have hi1 : Items w1 [] (some ⟨w.heap.size, 0, none⟩) exI := by rw [← hw1]; exact Vals.new w [] _ _ (by simp)
  have hk1 : Kept [] w w1 := by rw [← hw1]; exact (Kept.refl [] w).alloc _
  obtain ⟨g, hg⟩ : ∃ g, w.heap.size = g := ⟨_, rfl⟩
  rw [hg] at hi1
  have HI1 := hide hi1
  have HK1 := hide hk1
  clear hi1 hk1
  simp only [valsOf, exI, List.flatMap_cons, List.flatMap_nil, It.vals, List.cons_append, List.nil_append] at hw1
  go_enter Try.func9, Try.ntmps9
  go_wp2_with fail
  refine (fill_any 5 _).mono ?_
  rintro e w2 ⟨g2, rfl, hg2, ha2, hk⟩
  have hkk : Kept [] w2 (w2.alloc (.cells #[.slice (some ⟨g2, 0, none⟩) 64 64] 28)) := (Kept.refl [] w2).alloc _
  have hpp := parts_one _ w2.heap.size 28 (some ⟨g2, 0, none⟩) 64 64 (fillOf 5) (Blk.new w2 28 #[.slice (some ⟨g2, 0, none⟩) 64 64]) (fillOf_length _) (by omega) ((ha2.vals (S := []) (by simp)).kept hkk (by simp))
  obtain ⟨w3, hw3⟩ : ∃ w3, w2.alloc (.cells #[.slice (some ⟨g2, 0, none⟩) 64 64] 28) = w3 := ⟨_, rfl⟩
  obtain ⟨g3, hg3⟩ : ∃ g3, w2.heap.size = g3 := ⟨_, rfl⟩
  rw [hw3] at hkk hpp
  rw [hg3] at hpp
  have hk13 : Kept [] w w3 := HK1.out.trans (hk.trans hkk (by simp)) (by simp)
  have hb4 := Blk.new w3 25 #[.int .i64 2, .int .i64 1, .int .i64 0, .slice (some ⟨g, 0, none⟩) 2 2, .slice (some ⟨g3, 0, none⟩) 1 1]
  have hk4 := (Kept.refl [] w3).alloc (.cells #[.int .i64 2, .int .i64 1, .int .i64 0, .slice (some ⟨g, 0, none⟩) 2 2, .slice (some ⟨g3, 0, none⟩) 1 1] 25)
  obtain ⟨g4, hg4⟩ : ∃ g4, w3.heap.size = g4 := ⟨_, rfl⟩
  rw [hg4] at hb4
  have hrc : RcAt w3 (some ⟨g, 0, none⟩) 2 (some ⟨g3, 0, none⟩) 1 exR := ⟨rfl, rfl, HI1.out.kept (hk.trans hkk (by simp)) (by simp), hpp⟩
  have HR4 := hide (hrc.kept hk4)
  have HB4 := hide hb4
  have HK4 := hide (hk13.trans hk4 (by simp))
  obtain ⟨c0, c1, c2, c3, c4⟩ := cell5 HB4.out
  clear hk hkk hpp hk13 hb4 hk4 hrc ha2 hg2 HI1 HK1
  go_wp2_with fail
  refine (encode_any exR (some ⟨g, 0, none⟩) (some ⟨g3, 0, none⟩) 2 2 1 1 _ HR4.out).mono ?_
  rintro e w5 ⟨P5, n5, p5, rfl, hn5, hnb, hk⟩
  rw [exR_encode] at hn5 hnb ⊢
  obtain ⟨b5, rfl, _, harr⟩ := hnb.pos (by rw [exR_len]; omega)
  obtain rfl : n5 = 128 := by rw [hn5]; exact exR_len
  have hle := harr.len
  rw [exR_len] at hle
  have HN5 := hide harr
  have HR5 := hide (HR4.out.kept hk)
  have HB5 := hide (hk.blk HB4.out (by simp))
  have HK5 := hide (HK4.out.trans hk (by simp))
  obtain ⟨y, hy⟩ : ∃ y : Nat, exR.sum = y := ⟨_, rfl⟩
  have HY := hide hy
  rw [hy]
  clear hk hnb harr hn5 hy HR4 HB4 HK4 c0 c1 c2 c3 c4 hw1 hw3
  go_wp2_with fail
  refine (decode_any (some ⟨b5, 0, none⟩) 128 p5 exR.bytes _ (HN5.out.vals (S := []) (by simp)) exR_len (by simp) (by omega)).mono ?_
  rintro e w6 ⟨L6, m6, lc6, P6, k6, pc6, rfl, hrc, hk⟩
  rw [exR_decode] at hrc ⊢
  rw [HY.out]
  obtain rfl : m6 = 2 := hrc.hn.symm
  obtain rfl : k6 = 1 := hrc.hk.symm
  have hb7 := Blk.new w6 25 #[.int .i64 2, .int .i64 1, .int .i64 0, .slice L6 2 lc6, .slice P6 1 pc6]
  have hk7 := (Kept.refl [] w6).alloc (.cells #[.int .i64 2, .int .i64 1, .int .i64 0, .slice L6 2 lc6, .slice P6 1 pc6] 25)
  have HX7 := hide (hrc.kept hk7)
  have HN7 := hide ((HN5.out.kept hk (by simp)).kept hk7 (by simp))
  have HR7 := hide ((HR5.out.kept hk).kept hk7)
  have HB7 := hide (hk7.blk (hk.blk HB5.out (by simp)) (by simp))
  have HK7 := hide ((HK5.out.trans hk (by simp)).trans hk7 (by simp))
  obtain ⟨g7, hg7⟩ : ∃ g7, w6.heap.size = g7 := ⟨_, rfl⟩
  rw [hg7] at hb7
  have HS7 := hide hb7
  clear hk hrc hb7 hk7 HN5 HR5 HB5 HK5
  simp only [exR]
  go_wp2_with fail
  refine (encode_any Rc.zero none none 0 0 0 0 _ (RcAt.zero _ _ _)).mono ?_
  rintro e w8 ⟨P8, n8, p8, rfl, hn8, _, hk⟩
  rw [zero_encode] at hn8 ⊢
  have HX8 := hide (HX7.out.kept hk)
  have HN8 := hide (HN7.out.kept hk (by simp))
  have HR8 := hide (HR7.out.kept hk)
  have HB8 := hide (hk.blk HB7.out (by simp))
  have HS8 := hide (hk.blk HS7.out (by simp))
  have HK8 := hide (HK7.out.trans hk (by simp))
  obtain ⟨c0, c1, c2, c3, c4⟩ := cell5 HB8.out
  obtain ⟨d0, d1, d2, d3, d4⟩ := cell5 HS8.out
  clear hk hn8 HX7 HN7 HR7 HB7 HS7 HK7
  go_wp2_with fail
  refine (record_any exR exR L6 P6 (some ⟨g, 0, none⟩) (some ⟨g3, 0, none⟩) 2 lc6 1 pc6 2 2 1 1 _ HX8.out HR8.out (by omega) (by omega)).mono ?_
  rintro e w9 ⟨rfl, hk⟩
  rw [show decide (exR = exR) = true by simp]
  have HN9 := hide (HN8.out.kept hk (by simp))
  have HR9 := hide (HR8.out.kept hk)
  have HB9 := hide (hk.blk HB8.out (by simp))
  have HK9 := hide (HK8.out.trans hk (by simp))
  clear hk c0 c1 c2 c3 c4 d0 d1 d2 d3 d4 HX8 HN8 HR8 HB8 HS8 HK8
  obtain ⟨c0, c1, c2, c3, c4⟩ := cell5 HB9.out
  go_wp2_with fail
  refine (len_any exR (some ⟨g, 0, none⟩) (some ⟨g3, 0, none⟩) 2 2 1 1 _ HR9.out).mono ?_
  rintro e w10 ⟨rfl, hk⟩
  rw [exR_lenOf]
  have HN10 := hide (HN9.out.kept hk (by simp))
  have HK10 := hide (HK9.out.trans hk (by simp))
  clear hk c0 c1 c2 c3 c4 HN9 HR9 HB9 HK9
  go_wp2_with fail
  refine (size_any (some ⟨b5, 0, none⟩) 64 p5 (exR.bytes.take 64) _ (by rw [List.map_take]; exact (HN10.out.vals (S := []) (by simp)).first 64) (by rw [List.length_take, exR_len]; rfl) (by omega) (by simp)).mono ?_
  rintro e w11 ⟨rfl, hk⟩
  rw [exR_size]
  have HN11 := HN10.out.kept hk (by simp)
  have HK11 := hide (HK10.out.trans hk (by simp))
  have r0 := HN11.at_ exR_start.1
  have r1 := HN11.at_ exR_start.2
  unfold B at r0 r1
  clear hk HN11 HN10 HK10
  go_wp2
  go_ret
  exact ⟨rfl, HK11.out⟩
end Go.Proofs.Ytepooidgmaokeaa.record
