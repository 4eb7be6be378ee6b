/- Package record: Encode. -/
import Derived.Test.YtepooidgmaokeaaRecordEnc
namespace Go.Proofs.Ytepooidgmaokeaa.record
open Go.RowKit Go.Proofs.Ytepooidgmaokeaa.mem Go.Proofs.Ytepooidgmaokeaa.base Go.Proofs.Ytepooidgmaokeaa.row Go.Proofs.Ytepooidgmaokeaa.rowBack Go.Proofs.Ytepooidgmaokeaa.fill Go.Proofs.Ytepooidgmaokeaa.crc Go.Proofs.Ytepooidgmaokeaa.crcMath Go.Proofs.Ytepooidgmaokeaa.super Go.Proofs.Ytepooidgmaokeaa.item

set_option maxRecDepth 100000 in
theorem encode_no (R : Rc) (L A : Option Addr) (n c k d : Nat) (w : World) (h : RcAt w L n A k R) (hm : R.may = false) :
    Calls Try.prog 10 #[.agg #[.int .i64 R.m, .int .i64 R.l, .int .i64 R.p, .slice L n c, .slice A k d]] w fun e w' => e = .returned (.tuple #[.slice none 0 0, .int .i64 0, .int .i64 1]) ∧ Kept [] w w' := by
  have hk1 := (Kept.refl [] w).alloc (.cells #[.int .i64 R.m, .int .i64 R.l, .int .i64 R.p, .slice L n c, .slice A k d] 25)
  have HR := hide (h.kept hk1)
  have HK1 := hide hk1
  have HM := hide hm
  clear hk1 h hm
  go_enter Try.func10, Try.ntmps10
  go_wp2_with fail
  refine (may_any R L A n c k d _ HR.out).mono ?_
  rintro e w2 ⟨rfl, hk⟩
  rw [HM.out]
  have HK2 := hide (HK1.out.trans hk (by simp))
  clear hk
  go_wp2
  go_ret3
  exact ⟨rfl, HK2.out⟩

theorem flat_snoc (l : List (List UInt8)) (j : Nat) (b : List UInt8) (h : l[j]? = some b) : (l.take (j + 1)).flatten = (l.take j).flatten ++ b := by
  rw [List.take_add_one, h]
  simp
theorem all64_take (l : List (List UInt8)) (h : all64 l) (j : Nat) : all64 (l.take j) := fun b hb => h b (List.mem_of_mem_take hb)
theorem flat_take_len (l : List (List UInt8)) (h : all64 l) (j k : Nat) (hl : l.length = k) (hj : j ≤ k) : (l.take j).flatten.length = 64 * j := by
  rw [flat_len _ (all64_take l h j), List.length_take, hl, Nat.min_eq_left hj]

set_option maxRecDepth 100000 in
set_option maxHeartbeats 1000000 in
theorem encode_yes (R : Rc) (L A : Option Addr) (n c k d : Nat) (w : World) (h : RcAt w L n A k R) (ho : R.ok) :
    Calls Try.prog 10 #[.agg #[.int .i64 R.m, .int .i64 R.l, .int .i64 R.p, .slice L n c, .slice A k d]] w fun e w' => ∃ P cp, e = .returned (.tuple #[.slice P (64 * (1 + k)) cp, .int .i64 R.sum, .int .i64 0]) ∧ NewBytes w w' P cp R.bytes ∧ Kept [] w w' := by
  have hk1 := (Kept.refl [] w).alloc (.cells #[.int .i64 R.m, .int .i64 R.l, .int .i64 R.p, .slice L n c, .slice A k d] 25)
  have hb1 := Blk.new w 25 #[.int .i64 R.m, .int .i64 R.l, .int .i64 R.p, .slice L n c, .slice A k d]
  have hlt := hb1.lt
  obtain ⟨g, hg⟩ : ∃ g, w.heap.size = g := ⟨_, rfl⟩
  rw [hg] at hb1 hlt
  have hk6 : k ≤ 6 := by rw [← h.hk]; exact ho.few
  have H64 := hide ho.2.2.2.2.2.2
  have HLEN := hide ho.2.2.2.1.2
  have HKN := hide h.hk
  have HM := hide (R.may_iff.2 ho)
  have HLO : Hid (lenOf R = 1 + k) := hide (by rw [lenOf_ok ho, h.hk])
  have HO := hide ho
  have HR1 := hide (h.kept hk1)
  have HB1 := hide hb1
  have HK1 := hide hk1
  clear hb1 hk1 h ho
  go_enter Try.func10, Try.ntmps10
  go_wp2_with fail
  refine (may_any R L A n c k d _ HR1.out).mono ?_
  rintro e w2 ⟨rfl, hk⟩
  rw [HM.out]
  have HR2 := hide (HR1.out.kept hk)
  have HB2 := hide (hk.blk HB1.out (by simp))
  have HK2 := hide (HK1.out.trans hk (by simp))
  have f0 := HB2.out.cell 0
  have f1 := HB2.out.cell 1
  have f2 := HB2.out.cell 2
  have f3 := HB2.out.cell 3
  have f4 := HB2.out.cell 4
  clear hk HR1 HB1 HK1
  go_wp2_with fail
  refine (lead_any R L A n c k d _ HR2.out HO.out).mono ?_
  rintro e w3 ⟨P3, c3, rfl, hn3, hk⟩
  have HR3 := hide (HR2.out.kept hk)
  have HB3 := hide (hk.blk HB2.out (by simp))
  have HX3 := hide (hn3.vals (S := []) (by simp))
  have HK3 := hide (HK2.out.trans hk (by simp))
  clear hk hn3 f0 f1 f2 f3 f4 HR2 HB2 HK2
  obtain ⟨vs, hpo, hvs⟩ := HR3.out.bks.split
  have hvl : vs.length = k := by rw [hpo.1]; exact HKN.out
  have HPO := hide hpo
  have HVS := hide (hvs.kept ((Kept.refl [] w3).alloc (.cells #[.slice P3 60 c3] 28)) (by simp))
  have HOC := hide hpo.cells
  have HVL := hide hvl
  have H60 := hide (R.body_len HLEN.out)
  have f4 := (HB3.out.alloc (.cells #[.slice P3 60 c3] 28)).cell 4
  clear hpo hvs hvl
  go_wp2_with (at_builtin; refine wpList_append_vals rfl (.tmp 16) (.tmp 18) 23 rfl w3.heap.size 28 (.slice none 0 0) 1 24 Try.underlying23 slice_info rfl (by omega) (.slice (some ⟨w3.heap.size, 0, none⟩) 1 1) 1 [.slice P3 60 c3] rfl (own_one w3 _ _) [] A k d vs rfl (by rw [HVL.out, Nat.mul_one]) HVS.out HOC.out (by simp only [maxLen]; omega) (by omega) (by simp) ?_; intro v1 w4 hown1 hk4 hat1)
  have hk34 : Kept [] w3 w4 := ((Kept.refl [] w3).alloc _).trans hk4 (fun i hi => .inr (by simp [Value.ownBlock] at hi; omega))
  obtain ⟨A4, c4, rfl, _, _, hv4, _⟩ := own_slice hown1
  have hpar : Parts w4 A4 (R.body :: R.bks) := ((PartsOf.one P3 60 c3 R.body H60.out (by omega) HX3.out).append HPO.out |>.kept hk34).parts (hv4 [] (by simp))
  have HPAR := hide hpar
  have HR4 := hide (HR3.out.kept hk34)
  have HB4 := hide (hk34.blk HB3.out (by simp))
  have HX4 := hide (HX3.out.kept hk34 (by simp))
  have HK4 := hide (HK3.out.trans hk34 (by simp))
  have HLP : Hid ((R.body :: R.bks).length = 1 + k) := hide (by rw [List.length_cons, HKN.out]; omega)
  clear hown1 hk4 hat1 hk34 hv4 hpar f4 HR3 HB3 HX3 HK3 HVS HPO
  go_wp2_with fail
  refine (sum_any A4 (1 + k) c4 (R.body :: R.bks) _ HPAR.out HLP.out (by omega)).mono ?_
  rintro e w5 ⟨rfl, rfl⟩
  have hsum : more 0 (R.body :: R.bks).flatten = R.sum := by unfold Rc.sum Rc.tail; rw [List.flatten_cons]
  rw [hsum]
  clear hsum
  obtain ⟨y, hy⟩ : ∃ y : Nat, R.sum = y := ⟨_, rfl⟩
  have hfy : fitsW (4 : Nat) (y : Int) = true := by rw [← hy]; exact sum_fits _
  have HS4 : Hid (R.sum4 = bytesOf 4 [(y : Int)]) := hide (by rw [← hy]; rfl)
  have HFY := hide hfy
  have HY := hide hy
  rw [hy]
  clear hfy hy
  have f0 := HB4.out.cell 0
  have f1 := HB4.out.cell 1
  have f2 := HB4.out.cell 2
  have f3 := HB4.out.cell 3
  have f4 := HB4.out.cell 4
  go_wp2_with fail
  refine (len_any R L A n c k d _ HR4.out).mono ?_
  rintro e w6 ⟨rfl, hk⟩
  rw [HLO.out]
  have HR6 := hide (HR4.out.kept hk)
  have HB6 := hide (hk.blk HB4.out (by simp))
  have HX6 := hide (HX4.out.kept hk (by simp))
  have HK6 := hide (HK4.out.trans hk (by simp))
  clear hk f0 f1 f2 f3 f4 HR4 HB4 HX4 HK4 HPAR
  go_wp2_with fail
  refine (new_at (64 * ((1 + k : Nat) : Int)) _ (by omega) (by omega)).mono ?_
  rintro e w7 ⟨p, b, cap, A7, rfl, hp, hb, hb7, hr, hk⟩
  rw [show (⟨List.replicate (64 * ((1 + k : Nat) : Int)).toNat 0, 0⟩ : Row) = rowF (64 * (1 + k)) [] by rw [show (64 * ((1 + k : Nat) : Int)).toNat = 64 * (1 + k) by omega]; exact rowF_nil _] at hr
  have hp7 := hr.lt
  have HR7 := hide hr
  have HB7 := hide (hk.blk HB6.out (by simp))
  have HQ7 := hide (HR6.out.kept hk)
  have HX7 := hide (HX6.out.far hk (S := [p, b]) (by simp; omega))
  have HK7 := hide (HK6.out.trans hk (by simp))
  have hgp : g < p := by have := HB6.out.lt; omega
  have hgb : g < b := by have := HB6.out.lt; omega
  have HPW := hide (show w.heap.size ≤ p ∧ w.heap.size ≤ b by have := HK6.out.size; omega)
  have HPW6 := hide (show w6.heap.size ≤ p ∧ w6.heap.size ≤ b from ⟨hp, hb⟩)
  have HK67 := hide hk
  clear hr hk HB6 HX6 HK6
  go_wp2_with fail
  refine (lay_len p b cap A7 _ P3 R.body 60 c3 _ H60.out HR7.out HX7.out).mono ?_
  rintro e w8 ⟨rfl, hr, hk⟩
  rw [rowF_lay (64 * (1 + k)) [] R.body (by have := H60.out; simp; omega)] at hr ⊢
  have hs8 := hk.size
  have HR8 := hide hr
  have HB8 := hide (hk.blk HB7.out (by simp; omega))
  have HK8 := hide (HK7.out.trans hk (by have := HPW.out; simp; omega))
  have HK68 := hide (HK67.out.trans hk (by have := HPW6.out; simp; omega))
  clear hr hk HR7 HB7 HX7 HK7 HQ7
  go_wp2_with fail
  refine (put_len p b cap A7 _ 4 (some ⟨w8.heap.size, 0, none⟩) [(y : Int)] 1 1 _ rfl (HR8.out.kept (S := []) ((Kept.refl _ w8).alloc _) (by simp) (by simp)) (base.vals_one w8 [p, b] _ _ (by simp; omega)) (by omega)).mono ?_
  rintro e w9 ⟨rfl, hr, hk⟩
  rw [show ((4 : Int)) = ((4 : Nat) : Int) by rfl, rowF_put (64 * (1 + k)) _ 4 _ rfl (by simpa using HFY.out) (by have := H60.out; simp; omega)] at hr ⊢
  have HR9 : Hid (RowAt w9 p b cap A7 (rowF (64 * (1 + k)) (R.first ++ (R.bks.take 0).flatten))) := hide (by
    unfold Rc.first
    rw [HS4.out]
    simpa using hr)
  have HB9 := hide (Kept.lit_blk _ hk HB8.out (by simp; omega))
  have HK9 := hide (HK8.out.lit _ hk (by have := HPW.out; simp; omega))
  have HK69 := hide (HK68.out.lit _ hk (by have := HPW6.out; simp; omega))
  have f4 := HB9.out.cell 4
  have HF1 := hide (R.first_len HLEN.out)
  clear hr hk HR8 HB8 HK8 HK68
  go_wp2
  go_loopw [35, 9] (fun i u wr => ∃ j : Nat, j ≤ k ∧ i = .int .i64 j ∧ Hid (RowAt wr p b cap A7 (rowF (64 * (1 + k)) (R.first ++ (R.bks.take j).flatten))) ∧ Hid (Kept [] w wr) ∧ Hid (Kept [] w6 wr)) (fun i u wr => k - (intOf i).toNat)
  case atStart => exact ⟨0, by omega, rfl, HR9, HK9, HK69⟩
  case round =>
    obtain ⟨j, hj, rfl, HRr, HKr, HK6r⟩ := hrel
    by_cases hlt2 : j < k
    · obtain ⟨bl, hbl⟩ : ∃ bl, R.bks[j]? = some bl := ⟨_, List.getElem?_eq_getElem (by rw [HKN.out]; exact hlt2)⟩
      obtain ⟨ad, Ai, ci, hA, hc, hle, hvi⟩ := (HR6.out.bks.kept HK6r.out).at_ j _ hbl
      clear hle
      have h64 : bl.length = 64 := H64.out bl (List.mem_of_getElem? hbl)
      have hvf : Vals wr [p, b] Ai (bl.map B) := by
        obtain ⟨ad', Ai', ci', hA', hc', _, hvi6⟩ := HR6.out.bks.at_ j _ hbl
        have e := HK6r.out.cell hc' (by simp)
        rw [hA] at hA'
        cases hA'
        rw [hc] at e
        cases e
        exact hvi6.far HK6r.out (by have := HPW6.out; simp; omega)
      have HVF := hide hvf
      have HBL := hide hbl
      have HH64 := hide h64
      rw [h64] at hc
      clear hvi hvf hbl h64
      subst hA
      go_wp2_with fail
      refine (lay_len p b cap A7 _ Ai bl 64 ci _ HH64.out HRr.out HVF.out).mono ?_
      rintro e w10 ⟨rfl, hr, hk⟩
      rw [rowF_lay _ _ _ (by rw [List.length_append, HF1.out, flat_take_len R.bks H64.out j k HKN.out (by omega), HH64.out]; omega)] at hr ⊢
      have HR10 : Hid (RowAt w10 p b cap A7 (rowF (64 * (1 + k)) (R.first ++ (R.bks.take (j + 1)).flatten))) := hide (by
        rw [flat_snoc R.bks j bl HBL.out, ← List.append_assoc]
        exact hr)
      have HK10 := hide (HKr.out.trans hk (by have := HPW.out; simp; omega))
      have HK610 := hide (HK6r.out.trans hk (by have := HPW6.out; simp; omega))
      clear hr hk
      go_wp2
      go_roundw
      case rel => exact ⟨j + 1, by omega, by go_num, HR10, HK10, HK610⟩
      case measure => simp [intOf]; omega
    · obtain rfl : j = k := by omega
      have hfull : R.bks.take j = R.bks := List.take_of_length_le (by rw [HKN.out]; exact Nat.le_refl _)
      rw [hfull] at HRr
      have hfl : R.bks.flatten.length = 64 * j := by rw [flat_len _ H64.out, HKN.out]
      have hbs : (rowF (64 * (1 + j)) (R.first ++ R.bks.flatten)).bs = R.bytes := rowF_full _ _ (by rw [List.length_append, HF1.out, hfl]; omega)
      have hbl : R.bytes.length = 64 * (1 + j) := by rw [R.bytes_len HO.out, HKN.out]
      go_wp2_with fail
      refine (bytes_at p b cap A7 _ _ HRr.out).mono ?_
      rintro e w11 ⟨A11, c11, rfl, hn11, hk⟩
      rw [hbs] at hn11 ⊢
      rw [hbl]
      have HN11 := hide (hn11.mono HKr.out.size)
      have HK11 := hide (HKr.out.trans hk (by simp))
      clear hn11 hk hbs hbl hfl hfull
      go_wp2
      go_ret3
      exact ⟨A11, c11, by rw [HY.out]; rfl, HN11.out, HK11.out⟩

theorem encode_any (R : Rc) (L A : Option Addr) (n c k d : Nat) (w : World) (h : RcAt w L n A k R) :
    Calls Try.prog 10 #[.agg #[.int .i64 R.m, .int .i64 R.l, .int .i64 R.p, .slice L n c, .slice A k d]] w fun e w' =>
      ∃ P n' cp, e = .returned (.tuple #[.slice P n' cp, .int .i64 (encode R).2.1, .int .i64 (encode R).2.2]) ∧ n' = (encode R).1.length ∧ NewBytes w w' P cp (encode R).1 ∧ Kept [] w w' := by
  by_cases hm : R.may = true
  · have e : encode R = (R.bytes, (R.sum : Int), 0) := if_pos hm
    rw [e]
    exact (encode_yes R L A n c k d w h (R.may_iff.1 hm)).mono fun _ _ ⟨P, cp, h1, h2, h3⟩ => ⟨P, _, cp, h1, by rw [Rc.bytes_len (R.may_iff.1 hm), h.hk], h2, h3⟩
  · have e : encode R = ([], 0, 1) := if_neg hm
    rw [e]
    exact (encode_no R L A n c k d w h ((Bool.not_eq_true _).mp hm)).mono fun _ _ ⟨h1, h3⟩ => ⟨none, 0, 0, h1, rfl, .inl ⟨rfl, rfl, rfl⟩, h3⟩
end Go.Proofs.Ytepooidgmaokeaa.record
