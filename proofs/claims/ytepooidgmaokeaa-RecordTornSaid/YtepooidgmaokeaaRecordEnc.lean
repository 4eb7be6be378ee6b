/- Package record: Len, lead. -/
import Derived.Test.YtepooidgmaokeaaRecordMay
import Derived.Test.YtepooidgmaokeaaItemCore
import Derived.Test.YtepooidgmaokeaaCrcCore
namespace Go.Proofs.Ytepooidgmaokeaa.record
open Go.RowKit Go.Proofs.Ytepooidgmaokeaa.mem Go.Proofs.Ytepooidgmaokeaa.base Go.Proofs.Ytepooidgmaokeaa.row Go.Proofs.Ytepooidgmaokeaa.rowBack Go.Proofs.Ytepooidgmaokeaa.fill Go.Proofs.Ytepooidgmaokeaa.crc Go.Proofs.Ytepooidgmaokeaa.crcMath Go.Proofs.Ytepooidgmaokeaa.super Go.Proofs.Ytepooidgmaokeaa.item

/-- Len's answer. -/
def lenOf (R : Rc) : Nat := if R.may = true then 1 + R.bks.length else 0
theorem lenOf_ok {R : Rc} (h : R.ok) : lenOf R = 1 + R.bks.length := if_pos (R.may_iff.2 h)
set_option maxRecDepth 100000 in
theorem len_any (R : Rc) (L A : Option Addr) (n c k d : Nat) (w : World) (h : RcAt w L n A k R) :
    Calls Try.prog 14 #[.agg #[.int .i64 R.m, .int .i64 R.l, .int .i64 R.p, .slice L n c, .slice A k d]] w fun e w' => e = .returned (.int .i64 (lenOf R)) ∧ Kept [] w w' := by
  have hk1 := (Kept.refl [] w).alloc (.cells #[.int .i64 R.m, .int .i64 R.l, .int .i64 R.p, .slice L n c, .slice A k d] 25)
  have hb1 := Blk.new w 25 #[.int .i64 R.m, .int .i64 R.l, .int .i64 R.p, .slice L n c, .slice A k d]
  obtain ⟨g, hg⟩ : ∃ g, w.heap.size = g := ⟨_, rfl⟩
  rw [hg] at hb1
  have HR := hide (h.kept hk1)
  have HN := hide h.hk
  have HB1 := hide hb1
  have HK1 := hide hk1
  clear hb1 hk1 h
  by_cases hm : R.may = true
  · have hk6 : k ≤ 6 := by have := Rc.ok.few (R.may_iff.1 hm); rw [HN.out] at this; exact this
    have HE : Hid (lenOf R = 1 + k) := hide (by unfold lenOf; rw [if_pos hm, HN.out])
    have HM := hide hm
    clear hm
    go_enter Try.func14, Try.ntmps14
    go_wp2_with fail
    refine (may_any R L A n c k d _ HR.out).mono ?_
    rintro e w2 ⟨rfl, hk⟩
    rw [HM.out]
    have HK2 := hide (HK1.out.trans hk (by simp))
    have f4 := (hk.blk HB1.out (by simp)).cell 4
    clear hk
    go_wp2
    go_ret
    exact ⟨by rw [HE.out]; rfl, HK2.out⟩
  · have HE : Hid (lenOf R = 0) := hide (if_neg hm)
    have HM := hide ((Bool.not_eq_true _).mp hm)
    clear hm
    go_enter Try.func14, Try.ntmps14
    go_wp2_with fail
    refine (may_any R L A n c k d _ HR.out).mono ?_
    rintro e w2 ⟨rfl, hk⟩
    rw [HM.out]
    have HK2 := hide (HK1.out.trans hk (by simp))
    clear hk
    go_wp2
    go_ret
    exact ⟨by rw [HE.out]; rfl, HK2.out⟩

theorem fits_rec {R : Rc} (h : R.ok) : (∀ m ∈ [R.m, R.l, R.p], fitsW (4 : Nat) m = true) ∧ (∀ m ∈ [(R.its.length : Int), (R.bks.length : Int)], fitsW (1 : Nat) m = true) := by
  have hf := h.few
  obtain ⟨hm, hl, hp, hi, _⟩ := h
  refine ⟨fun m hx => ?_, fun m hx => ?_⟩
  · simp only [List.mem_cons, List.not_mem_nil, or_false] at hx
    rcases hx with rfl | rfl | rfl <;> exact fits4 _ (by omega) (by omega)
  · simp only [List.mem_cons, List.not_mem_nil, or_false] at hx
    rcases hx with rfl | rfl <;> exact fits1 _ (by omega) (by omega)

set_option maxRecDepth 100000 in
set_option maxHeartbeats 1000000 in
theorem lead_any (R : Rc) (L A : Option Addr) (n c k d : Nat) (w : World) (h : RcAt w L n A k R) (ho : R.ok) :
    Calls Try.prog 25 #[.agg #[.int .i64 R.m, .int .i64 R.l, .int .i64 R.p, .slice L n c, .slice A k d]] w fun e w' => ∃ P cp, e = .returned (.slice P 60 cp) ∧ NewBytes w w' P cp R.body ∧ Kept [] w w' := by
  have hk1 := (Kept.refl [] w).alloc (.cells #[.int .i64 R.m, .int .i64 R.l, .int .i64 R.p, .slice L n c, .slice A k d] 25)
  have hb1 := Blk.new w 25 #[.int .i64 R.m, .int .i64 R.l, .int .i64 R.p, .slice L n c, .slice A k d]
  have hlt := hb1.lt
  obtain ⟨g, hg⟩ : ∃ g, w.heap.size = g := ⟨_, rfl⟩
  rw [hg] at hb1 hlt
  have f3 := hb1.cell 3
  have hn6 : n ≤ 6 := by rw [← h.hn]; exact ho.2.2.2.1.2
  have HI := hide (h.its.kept hk1 (by simp))
  have HN := hide h.hn
  have HKN := hide h.hk
  have HB1 := hide hb1
  have HK1 := hide hk1
  have HF := hide (fits_rec ho)
  have HE : Hid (item.encode R.its = (laid R.its, 0)) := hide (encode_yes _ (by rw [h.hn]; exact hn6) ho.2.2.2.2.1)
  have HL := hide (show (laid R.its).length = 7 * n by rw [laid_len, h.hn])
  clear hb1 hk1 h ho
  go_enter Try.func25, Try.ntmps25
  go_wp2_with fail
  refine (item.encode_any L n c R.its _ HI.out HN.out hn6).mono ?_
  rintro e w2 ⟨P2, n2, c2, rfl, hn2, hnb, hk⟩
  rw [HE.out] at hn2 hnb ⊢
  have HX2 := hide (hnb.vals (S := []) (by simp))
  have hl2 := HL.out
  obtain rfl : n2 = 7 * n := by rw [hn2]; exact hl2
  have HB2 := hide (hk.blk HB1.out (by simp))
  have HK2 := hide (HK1.out.trans hk (by simp))
  have hs2 := hk.size
  clear hk hnb hn2 f3 hl2
  go_wp2_with fail
  refine (new_at 60 _ (by omega) (by omega)).mono ?_
  rintro e w3 ⟨p, b, cap, A3, rfl, hp, hb, hb3, hr, hk⟩
  rw [show (⟨List.replicate (60 : Int).toNat 0, 0⟩ : Row) = rowF 60 [] by rw [show (60 : Int).toNat = 60 by omega]; exact rowF_nil _] at hr
  have hp3 := hr.lt
  have HR3 := hide hr
  have HB3 := hide (hk.blk HB2.out (by simp))
  have HX3 := hide (HX2.out.far hk (S := [p, b]) (by simp; omega))
  have HK3 := hide (HK2.out.trans hk (by simp))
  have hgp : g < p := by have := HB2.out.lt; omega
  have hgb : g < b := by have := HB2.out.lt; omega
  have HPW := hide (show w.heap.size ≤ p ∧ w.heap.size ≤ b by have := HK2.out.size; omega)
  clear hr hk
  have hcv := Go.Joins.run_convert_bytes_const_at (P := Try.prog) w3 28 5 #[.int .u8 75, .int .u8 82] 2 2 w3.heap.size rfl Try.underlying28 Try.underlying5
  go_wp2_with fail
  refine (lay_len p b cap A3 _ (some ⟨w3.heap.size, 0, none⟩) [75, 82] 2 2 _ rfl (HR3.out.kept (S := []) ((Kept.refl _ w3).alloc _) (by simp) (by simp)) (Vals.lit w3 [p, b] _ _ _ ([75, 82].map B) rfl (by simp; omega))).mono ?_
  rintro e w4 ⟨rfl, hr, hk⟩
  rw [rowF_lay 60 [] [75, 82] (by simp)] at hr ⊢
  have hs4 := hk.size
  have HR4 := hide hr
  have HB4 := hide (Kept.lit_blk _ hk HB3.out (by simp; omega))
  have HX4 := hide ((HX3.out.kept ((Kept.refl [] w3).alloc _) (by simp)).kept hk (by simp))
  have HK4 := hide (HK3.out.lit _ hk (by have := HPW.out; simp; omega))
  have hs4 : w3.heap.size < w4.heap.size := by simp at hs4; omega
  clear hr hk hcv HR3 HB3 HK3 HX3
  have f0 := HB4.out.cell 0
  have f1 := HB4.out.cell 1
  have f2 := HB4.out.cell 2
  go_wp2_with fail
  refine (put_len p b cap A3 _ 4 (some ⟨w4.heap.size, 0, none⟩) [R.m, R.l, R.p] 3 3 _ rfl (HR4.out.kept (S := []) ((Kept.refl _ w4).alloc _) (by simp) (by simp)) (Vals.lit w4 [p, b] _ _ _ ([R.m, R.l, R.p].map I) rfl (by simp; omega)) (by omega)).mono ?_
  rintro e w5 ⟨rfl, hr, hk⟩
  rw [show ((4 : Int)) = ((4 : Nat) : Int) by rfl, rowF_put 60 _ 4 _ rfl HF.out.1 (by simp)] at hr ⊢
  have hs5 := hk.size
  have HR5 := hide hr
  have HB5 := hide (Kept.lit_blk _ hk HB4.out (by simp; omega))
  have HX5 := hide ((HX4.out.kept ((Kept.refl [] w4).alloc _) (by simp)).kept hk (by simp))
  have HK5 := hide (HK4.out.lit _ hk (by have := HPW.out; simp; omega))
  have hs5 : w4.heap.size < w5.heap.size := by simp at hs5; omega
  clear hr hk f0 f1 f2 HR4 HB4 HK4 HX4
  have f3 := HB5.out.cell 3
  have f4 := HB5.out.cell 4
  have HF2 : Hid (∀ m ∈ [(n : Int), (k : Int)], fitsW (1 : Nat) m = true) := hide (by have := HF.out.2; rwa [HN.out, HKN.out] at this)
  go_wp2_with fail
  refine (put_len p b cap A3 _ 1 (some ⟨w5.heap.size, 0, none⟩) [(n : Int), (k : Int)] 2 2 _ rfl (HR5.out.kept (S := []) ((Kept.refl _ w5).alloc _) (by simp) (by simp)) (Vals.lit w5 [p, b] _ _ _ ([(n : Int), (k : Int)].map I) rfl (by simp; omega)) (by omega)).mono ?_
  rintro e w6 ⟨rfl, hr, hk⟩
  rw [show ((1 : Int)) = ((1 : Nat) : Int) by rfl, rowF_put 60 _ 1 _ rfl HF2.out (by simp [bytesOf_length])] at hr ⊢
  have hs6 := hk.size
  have HR6 := hide hr
  have HX6 := hide ((HX5.out.kept ((Kept.refl [] w5).alloc _) (by simp)).kept hk (by simp))
  have HK6 := hide (HK5.out.lit _ hk (by have := HPW.out; simp; omega))
  clear hr hk f3 f4 HR5 HB5 HK5 HX5
  go_wp2_with fail
  refine (lay_len p b cap A3 _ P2 (laid R.its) (7 * n) c2 _ HL.out HR6.out HX6.out).mono ?_
  rintro e w7 ⟨rfl, hr, hk⟩
  rw [rowF_lay 60 _ _ (by have := HL.out; simp [bytesOf_length]; omega)] at hr ⊢
  have HR7 := hide hr
  have HK7 := hide (HK6.out.trans hk (by have := HPW.out; simp; omega))
  clear hr hk HR6 HX6
  go_wp2_with fail
  refine (bytes_at p b cap A3 _ _ HR7.out).mono ?_
  rintro e w8 ⟨A8, c8, rfl, hn8, hk⟩
  have hb : (rowF 60 ((([] ++ [75, 82]) ++ bytesOf 4 [R.m, R.l, R.p] ++ bytesOf 1 [(n : Int), (k : Int)]) ++ laid R.its)).bs = R.body := by
    unfold Rc.body Rc.head
    rw [HN.out, HKN.out]
    rfl
  have h60 : (R.body).length = 60 := R.body_len (by rw [HN.out]; exact hn6)
  rw [hb] at hn8 ⊢
  rw [h60]
  have HN8 := hide (hn8.mono HK7.out.size)
  have HK8 := hide (HK7.out.trans hk (by simp))
  clear hn8 hk hb h60
  go_wp2
  go_ret
  exact ⟨A8, c8, rfl, HN8.out, HK8.out⟩
end Go.Proofs.Ytepooidgmaokeaa.record
