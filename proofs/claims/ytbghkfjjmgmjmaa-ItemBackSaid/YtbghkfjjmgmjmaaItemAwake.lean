/- The laws' own example. -/
import Derived.Test.YtbghkfjjmgmjmaaItemDecode
import Derived.Test.YtbghkfjjmgmjmaaItemAlike
namespace Go.Proofs.Ytbghkfjjmgmjmaa.item
open Go.RowKit Go.Proofs.Ytbghkfjjmgmjmaa.mem Go.Proofs.Ytbghkfjjmgmjmaa.base Go.Proofs.Ytbghkfjjmgmjmaa.row Go.Proofs.Ytbghkfjjmgmjmaa.rowBack Go.Proofs.Ytbghkfjjmgmjmaa.fill

theorem encode_all (L : Option Addr) (n c : Nat) (l : List It) (w : World) (hv : Items w [] L l) (hl : l.length = n) :
    Calls Try.prog 12 #[.slice L n c] w fun e w' => ∃ A n' c', e = .returned (.tuple #[.slice A n' c', .int .i64 (encode l).2]) ∧ n' = (encode l).1.length ∧ NewBytes w w' A c' (encode l).1 ∧ Kept [] w w' := by
  by_cases h : n ≤ 6
  · exact encode_any L n c l w hv hl h
  · rw [encode_many l (by omega)]
    exact (encode_many_any L n c w (by omega)).mono fun _ _ ⟨h1, h2⟩ => ⟨none, 0, 0, h1, rfl, .inl ⟨rfl, rfl, rfl⟩, h2⟩

def exL : List It := [⟨1, 3, 0, 0⟩, ⟨2, 1, 2, 0⟩, ⟨7, 0, 0, 2⟩]
theorem ex_may : allMay exL := by decide
theorem ex_encode : encode exL = (laid exL, 0) := encode_yes exL (by decide) ex_may
theorem ex_decode : decode (laid exL) = (exL, 0) := decode_laid exL (by decide) ex_may
theorem ex_len : (laid exL).length = 21 := laid_len exL

set_option maxRecDepth 100000 in
set_option maxHeartbeats 1000000 in
theorem awake_any (w : World) : Calls Try.prog 7 #[] w fun e w' => e = .returned (.bool true) ∧ Kept [] w w' := by
  obtain ⟨w1, hw1⟩ : ∃ w1, w.alloc (.cells (valsOf exL).toArray 26) = w1 := ⟨_, rfl⟩
  have hi1 : Items w1 [] (some ⟨w.heap.size, 0, none⟩) exL := by rw [← hw1]; exact Vals.new w [] _ _ (by simp)
  have hk1 : Kept [] w w1 := by rw [← hw1]; exact (Kept.refl [] w).alloc _
  obtain ⟨g, hg⟩ : ∃ g, w.heap.size = g := ⟨_, rfl⟩
  have hb1 : IBlk w1 w.heap.size exL := by rw [← hw1]; exact Blk.new w _ _
  rw [hg] at hi1 hb1
  have HI1 := hide hi1
  have HB1 := hide hb1
  have HK1 := hide hk1
  clear hi1 hk1 hb1
  simp only [valsOf, exL, List.flatMap_cons, List.flatMap_nil, It.vals, List.cons_append, List.nil_append] at hw1
  go_enter Try.func7, Try.ntmps7
  go_wp2_with fail
  refine (encode_any (some ⟨g, 0, none⟩) 3 3 exL _ HI1.out rfl (by omega)).mono ?_
  rintro e w2 ⟨A2, n2, c2, rfl, hn2, hn, hk⟩
  rw [ex_encode] at hn2 hn ⊢
  have hv := hn.vals (S := []) (by simp)
  have hA := hn.nil0
  obtain ⟨b2, rfl, _, harr⟩ := hn.pos (by rw [ex_len]; omega)
  obtain rfl : n2 = 21 := by rw [hn2]; exact ex_len
  have HI2 := hide (HI1.out.kept hk (by simp))
  have HB2 : Hid (IBlk w2 g exL) := hide (hk.blk HB1.out (by simp))
  have HK2 := hide (HK1.out.trans hk (by simp))
  clear hk hn hw1 hn2 HI1 HB1 HK1
  go_wp2_with fail
  refine (decode_any (some ⟨b2, 0, none⟩) 21 c2 (laid exL) _ hv ex_len hA (by omega)).mono ?_
  rintro e w3 ⟨L3, n3, c3, rfl, hn3, _, _, hi3, hk⟩
  rw [ex_decode] at hn3 hi3 ⊢
  obtain rfl : n3 = 3 := hn3
  have HI3 := hide (HI2.out.kept hk (by simp))
  have HX3 := hide hi3
  have HB3 : Hid (IBlk w3 g exL) := hide (hk.blk HB2.out (by simp))
  have HK3 := hide (HK2.out.trans hk (by simp))
  have HR3 := hide (harr.kept hk (by simp))
  clear hk hi3 hv hA harr HI2 HB2 HK2
  go_wp2_with fail
  refine (items_any L3 (some ⟨g, 0, none⟩) 3 3 c3 3 exL exL _ rfl rfl HX3.out HI3.out (by omega)).mono ?_
  rintro e w4 ⟨rfl, hk⟩
  rw [show decide (exL = exL) = true by simp]
  have HB4 : Hid (IBlk w4 g exL) := hide (hk.blk HB3.out (by simp))
  have HK4 := hide (HK3.out.trans hk (by simp))
  have harr := HR3.out.kept hk (by simp)
  have r0 := harr.at_ (show (laid exL)[0]? = some 1 by decide)
  have r1 := harr.at_ (show (laid exL)[1]? = some 3 by decide)
  have r16 := harr.at_ (show (laid exL)[16]? = some 0 by decide)
  have r17 := harr.at_ (show (laid exL)[17]? = some 2 by decide)
  unfold B at r0 r1 r16 r17
  have f0 : w4.cell? ⟨g, 0, none⟩ = some (.int .i64 1) := Blk.cell HB4.out 0
  have f1 : w4.cell? ⟨g, 1, none⟩ = some (.int .i64 3) := Blk.cell HB4.out 1
  have f2 : w4.cell? ⟨g, 2, none⟩ = some (.int .i64 0) := Blk.cell HB4.out 2
  have f3 : w4.cell? ⟨g, 3, none⟩ = some (.int .i64 0) := Blk.cell HB4.out 3
  clear hk harr HI3 HX3 HB3 HK3 HR3
  go_wp2_with fail
  refine (loaded_any ⟨1, 3, 0, 0⟩ _).mono ?_
  rintro e w5 ⟨rfl, hk⟩
  rw [show It.loaded ⟨1, 3, 0, 0⟩ = true by decide]
  have HB5 : Hid (IBlk w5 g exL) := hide (hk.blk HB4.out (by simp))
  have HK5 := hide (HK4.out.trans hk (by simp))
  have f4 : w5.cell? ⟨g, 4, none⟩ = some (.int .i64 2) := Blk.cell HB5.out 4
  have f5 : w5.cell? ⟨g, 5, none⟩ = some (.int .i64 1) := Blk.cell HB5.out 5
  have f6 : w5.cell? ⟨g, 6, none⟩ = some (.int .i64 2) := Blk.cell HB5.out 6
  have f7 : w5.cell? ⟨g, 7, none⟩ = some (.int .i64 0) := Blk.cell HB5.out 7
  clear hk f0 f1 f2 f3 r0 r1 r16 r17 HB4 HK4
  go_wp2_with fail
  refine (loaded_any ⟨2, 1, 2, 0⟩ _).mono ?_
  rintro e w6 ⟨rfl, hk⟩
  rw [show It.loaded ⟨2, 1, 2, 0⟩ = false by decide]
  have HK6 := hide (HK5.out.trans hk (by simp))
  clear hk f4 f5 f6 f7 HB5 HK5
  go_wp2_with fail
  refine (may_any ⟨2, 60, 5, 0⟩ _).mono ?_
  rintro e w7 ⟨rfl, hk⟩
  rw [show It.may ⟨2, 60, 5, 0⟩ = false by decide]
  have HK7 := hide (HK6.out.trans hk (by simp))
  clear hk
  go_wp2
  go_ret
  exact ⟨rfl, HK7.out⟩
end Go.Proofs.Ytbghkfjjmgmjmaa.item
