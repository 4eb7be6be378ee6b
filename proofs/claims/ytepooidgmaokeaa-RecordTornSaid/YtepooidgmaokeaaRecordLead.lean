/- Package record: get, readLead. -/
import Derived.Test.YtepooidgmaokeaaRecordRow
import Derived.Test.YtepooidgmaokeaaRecordMem
import Derived.Test.YtepooidgmaokeaaRowCore
import Derived.Test.YtepooidgmaokeaaHeld
namespace Go.Proofs.Ytepooidgmaokeaa.record
open Go.RowKit Go.Proofs.Ytepooidgmaokeaa.mem Go.Proofs.Ytepooidgmaokeaa.base Go.Proofs.Ytepooidgmaokeaa.row Go.Proofs.Ytepooidgmaokeaa.rowBack Go.Proofs.Ytepooidgmaokeaa.fill Go.Proofs.Ytepooidgmaokeaa.crc Go.Proofs.Ytepooidgmaokeaa.crcMath Go.Proofs.Ytepooidgmaokeaa.super Go.Proofs.Ytepooidgmaokeaa.item

section
variable {w a : World} {g : Nat} {t : TypeId} {S : List Nat} {a0 a1 a2 a3 a4 : Value}
/-- Five cells are stored. -/
theorem put5 (v0 v1 v2 v3 v4 : Value) (h : Blk w g t #[a0, a1, a2, a3, a4]) : Blk (((((w.setCell ⟨g, 0, none⟩ v0).setCell ⟨g, 1, none⟩ v1).setCell ⟨g, 2, none⟩ v2).setCell ⟨g, 3, none⟩ v3).setCell ⟨g, 4, none⟩ v4) g t #[v0, v1, v2, v3, v4] :=
  (((((h.set_ 0 v0).set_ 1 v1).set_ 2 v2).set_ 3 v3).set_ 4 v4)
theorem put5_kept (v0 v1 v2 v3 v4 : Value) (h : Kept S a w) (hg : g ∈ S ∨ a.heap.size ≤ g) : Kept S a (((((w.setCell ⟨g, 0, none⟩ v0).setCell ⟨g, 1, none⟩ v1).setCell ⟨g, 2, none⟩ v2).setCell ⟨g, 3, none⟩ v3).setCell ⟨g, 4, none⟩ v4) :=
  (((((h.set_ hg 0 v0).set_ hg 1 v1).set_ hg 2 v2).set_ hg 3 v3).set_ hg 4 v4)
theorem cell5 (h : Blk w g t #[a0, a1, a2, a3, a4]) : w.cell? ⟨g, 0, none⟩ = some a0 ∧ w.cell? ⟨g, 1, none⟩ = some a1 ∧ w.cell? ⟨g, 2, none⟩ = some a2 ∧ w.cell? ⟨g, 3, none⟩ = some a3 ∧ w.cell? ⟨g, 4, none⟩ = some a4 :=
  ⟨h.cell 0, h.cell 1, h.cell 2, h.cell 3, h.cell 4⟩
end

theorem sget_any (p b cap : Nat) (A : Option Addr) (R R' : Row) (x y : Int) (w : World) (h : RowAt w p b cap A R) (hR : (R.get x).2.2 = R') (hy : (R.get x).1 = y) :
    Calls Try.prog 74 #[.pointer (some ⟨p, 0, none⟩), .int .i64 x] w fun e w' => e = .returned (.int .i64 y) ∧ RowAt w' p b cap A R' ∧ Kept [p] w w' := by
  have H := hide h
  have HY := hide hy
  have HRR := hide hR
  clear h hy hR
  go_enter Try.func74, Try.ntmps74
  go_wp2_with fail
  refine (row.get_at p b cap A R x _ H.out).mono ?_
  rintro e w1 ⟨rfl, hr, hk⟩
  rw [HRR.out] at hr
  rw [HY.out]
  have HR := hide hr
  have HK := hide hk
  clear hr hk
  go_wp2
  go_ret
  exact ⟨rfl, HR.out, HK.out⟩

set_option maxRecDepth 100000 in
set_option maxHeartbeats 1000000 in
theorem readLead_any (p b cap : Nat) (A : Option Addr) (bs : List UInt8) (w : World) (h : RowAt w p b cap A ⟨bs, 0⟩) (hbl : b < w.heap.size) :
    Calls Try.prog 56 #[.pointer (some ⟨p, 0, none⟩)] w fun e w' =>
      e = .returned (.tuple #[.agg #[.int .i64 (cm bs), .int .i64 (cl bs), .int .i64 (cp bs), .slice none 0 0, .slice none 0 0], .int .i64 (cn bs), .int .i64 (ck bs)]) ∧ RowAt w' p b cap A (q5 bs) ∧ Kept [p] w w' := by
  have hp := h.lt
  have hk0 := (Kept.refl [p] w).alloc (.cells #[.int .i64 0, .int .i64 0, .int .i64 0, .slice none 0 0, .slice none 0 0] 25)
  have hb0 := Blk.new w 25 #[.int .i64 0, .int .i64 0, .int .i64 0, .slice none 0 0, .slice none 0 0]
  have hlt := hb0.lt
  obtain ⟨g, hg⟩ : ∃ g, w.heap.size = g := ⟨_, rfl⟩
  have HG := hide (Nat.le_of_eq hg)
  rw [hg] at hb0 hp hlt hbl
  have HR0 : Hid (RowAt (w.alloc (.cells #[.int .i64 0, .int .i64 0, .int .i64 0, .slice none 0 0, .slice none 0 0] 25)) p b cap A ⟨bs, 0⟩) := hide (h.kept (S := []) ((Kept.refl [] w).alloc _) (by simp) (by simp))
  have HB0 := hide hb0
  have HK0 := hide hk0
  clear hb0 hk0 h
  go_enter Try.func56, Try.ntmps56
  go_wp2_with fail
  refine (take_at p b cap A _ 2 _ HR0.out).mono ?_
  rintro e w1 ⟨A1, c1, rfl, _, hr, hk⟩
  have HR1 : Hid (RowAt w1 p b cap A (q0 bs)) := hide hr
  have HK1 := hide (HK0.out.trans hk (by simp))
  have HB1 := hide (hk.blk HB0.out (by simp; omega))
  clear hr hk HR0 HK0 HB0
  go_wp2_with fail
  refine (sget_any p b cap A _ _ 4 _ _ HR1.out (q1_eq bs) (cm_eq bs)).mono ?_
  rintro e w2 ⟨rfl, hr, hk⟩
  have HR2 := hide hr
  have HK2 := hide (HK1.out.trans hk (by simp))
  have HB2 := hide (hk.blk HB1.out (by simp; omega))
  clear hr hk HR1 HK1 HB1
  go_wp2_with fail
  refine (sget_any p b cap A _ _ 4 _ _ HR2.out (q2_eq bs) (cl_eq bs)).mono ?_
  rintro e w3 ⟨rfl, hr, hk⟩
  have HR3 := hide hr
  have HK3 := hide (HK2.out.trans hk (by simp))
  have HB3 := hide (hk.blk HB2.out (by simp; omega))
  clear hr hk HR2 HK2 HB2
  go_wp2_with fail
  refine (sget_any p b cap A _ _ 4 _ _ HR3.out (q3_eq bs) (cp_eq bs)).mono ?_
  rintro e w4 ⟨rfl, hr, hk⟩
  obtain ⟨x1, hx1⟩ : ∃ x, cm bs = x := ⟨_, rfl⟩
  obtain ⟨x2, hx2⟩ : ∃ x, cl bs = x := ⟨_, rfl⟩
  obtain ⟨x3, hx3⟩ : ∃ x, cp bs = x := ⟨_, rfl⟩
  rw [hx1, hx2, hx3]
  have HX1 := hide hx1
  have HX2 := hide hx2
  have HX3 := hide hx3
  have hb5 := Blk.new w4 25 #[.int .i64 x1, .int .i64 x2, .int .i64 x3, .slice none 0 0, .slice none 0 0]
  have hk5 := (Kept.refl [] w4).alloc (.cells #[.int .i64 x1, .int .i64 x2, .int .i64 x3, .slice none 0 0, .slice none 0 0] 25)
  have HS5 := hide hb5
  have HR5 := hide (hr.kept hk5 (by simp) (by simp))
  have HK5 := hide ((HK3.out.trans hk (by simp)).trans hk5 (by simp))
  have HB5 := hide (hk5.blk (hk.blk HB3.out (by simp; omega)) (by simp))
  have hps : p < w4.heap.size := hr.lt
  clear hr hk HR3 HK3 HB3 hb5 hk5 hx1 hx2 hx3
  go_wp2_with fail
  refine (sget_any p b cap A _ _ 1 _ _ HR5.out (q4_eq bs) (cn_eq bs)).mono ?_
  rintro e w6 ⟨rfl, hr, hk⟩
  have HR6 := hide hr
  have HK6 := hide (HK5.out.trans hk (by simp))
  have HB6 := hide (hk.blk HB5.out (by simp; omega))
  have HS6 := hide (hk.blk HS5.out (by simp; omega))
  clear hr hk HR5 HK5 HB5 HS5
  go_wp2_with fail
  refine (sget_any p b cap A _ _ 1 _ _ HR6.out (q5_eq bs) (ck_eq bs)).mono ?_
  rintro e w7 ⟨rfl, hr, hk⟩
  have HR7 := hide hr
  have HK7 := hide (HK6.out.trans hk (by simp))
  have HB7 := hide (hk.blk HB6.out (by simp; omega))
  have HS7 := hide (hk.blk HS6.out (by simp; omega))
  clear hr hk HR6 HK6 HB6 HS6
  obtain ⟨s, hs⟩ : ∃ s, w4.heap.size = s := ⟨_, rfl⟩
  rw [hs] at HS7 hps
  obtain ⟨c0, c1, c2, c3, c4⟩ := cell5 HS7.out
  obtain ⟨d0, d1, d2, d3, d4⟩ := cell5 HB7.out
  have f0 := HB7.out.frozen 0
  have f1 := HB7.out.frozen 1
  have f2 := HB7.out.frozen 2
  have f3 := HB7.out.frozen 3
  have f4 := HB7.out.frozen 4
  have HBW := hide (put5 (.int .i64 x1) (.int .i64 x2) (.int .i64 x3) (.slice none 0 0) (.slice none 0 0) HB7.out)
  have hkw := put5_kept (g := g) (S := [p]) (.int .i64 x1) (.int .i64 x2) (.int .i64 x3) (.slice none 0 0) (.slice none 0 0) HK7.out (.inr HG.out)
  have hkr := put5_kept (g := g) (S := [g]) (.int .i64 x1) (.int .i64 x2) (.int .i64 x3) (.slice none 0 0) (.slice none 0 0) (Kept.refl [g] w7) (.inl (by simp))
  have HKW := hide hkw
  have HKR := hide hkr
  clear hkw hkr
  go_wp2
  generalize (((((w7.setCell ⟨g, 0, none⟩ (.int .i64 x1)).setCell ⟨g, 1, none⟩ (.int .i64 x2)).setCell ⟨g, 2, none⟩ (.int .i64 x3)).setCell ⟨g, 3, none⟩ (.slice none 0 0)).setCell ⟨g, 4, none⟩ (.slice none 0 0)) = W at HBW HKW HKR ⊢
  obtain ⟨t0, t1, t2, t3, t4⟩ := cell5 HBW.out
  refine bodyPost_ret (v := .tuple #[.agg #[.int .i64 x1, .int .i64 x2, .int .i64 x3, .slice none 0 0, .slice none 0 0], .int .i64 (cn bs), .int .i64 (ck bs)]) ?_ rfl ⟨by rw [HX1.out, HX2.out, HX3.out], HR7.out.kept HKR.out (by simp; omega) (by simp; omega), HKW.out⟩
  simp [results, Try.results56, go_sem, t0, t1, t2, t3, t4]
end Go.Proofs.Ytepooidgmaokeaa.record
