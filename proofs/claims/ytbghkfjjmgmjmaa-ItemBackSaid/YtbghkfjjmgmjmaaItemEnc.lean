/- Package item: Encode. -/
import Derived.Test.YtbghkfjjmgmjmaaItemMem
namespace Go.Proofs.Ytbghkfjjmgmjmaa.item
open Go.RowKit Go.Proofs.Ytbghkfjjmgmjmaa.mem Go.Proofs.Ytbghkfjjmgmjmaa.base Go.Proofs.Ytbghkfjjmgmjmaa.row Go.Proofs.Ytbghkfjjmgmjmaa.rowBack Go.Proofs.Ytbghkfjjmgmjmaa.fill

set_option maxRecDepth 100000 in
theorem encode_many_any (L : Option Addr) (n c : Nat) (w : World) (h : 6 < n) :
    Calls Try.prog 12 #[.slice L n c] w fun e w' => e = .returned (.tuple #[.slice none 0 0, .int .i64 1]) ∧ Kept [] w w' := by
  go_enter Try.func12, Try.ntmps12
  go_wp2
  go_ret2
  exact ⟨rfl, Kept.refl _ _⟩

set_option maxRecDepth 100000 in
set_option maxHeartbeats 1000000 in
theorem encode_any (L : Option Addr) (n c : Nat) (l : List It) (w : World) (hv : Items w [] L l) (hl : l.length = n) (hn : n ≤ 6) :
    Calls Try.prog 12 #[.slice L n c] w fun e w' => ∃ A n' c', e = .returned (.tuple #[.slice A n' c', .int .i64 (encode l).2]) ∧ n' = (encode l).1.length ∧ NewBytes w w' A c' (encode l).1 ∧ Kept [] w w' := by
  have HV := hide hv
  have HL := hide hl
  clear hv hl
  go_enter Try.func12, Try.ntmps12
  go_wp2_with fail
  refine (new_at (7 * (n : Int)) _ (by omega) (by omega)).mono ?_
  rintro e w1 ⟨p, b, cap, A, rfl, hp, hb, hb1, hr, hk⟩
  rw [show (⟨List.replicate (7 * (n : Int)).toNat 0, 0⟩ : Row) = rowF (7 * n) [] by rw [show (7 * (n : Int)).toNat = 7 * n by omega]; exact rowF_nil _] at hr
  have HR := hide hr
  have hp1 := hr.lt
  have HK := hide hk
  have HP := hide hp
  have HB := hide hb
  clear hr hk hp hb
  go_wp2
  go_loopw [16, 6] (fun i u wr => ∃ k : Nat, k ≤ n ∧ i = .int .i64 k ∧ Hid (RowAt wr p b cap A (rowF (7 * n) (laid (l.take k)))) ∧ Hid (allMay (l.take k)) ∧ Hid (Kept [] w wr) ∧ w1.heap.size ≤ wr.heap.size) (fun i u wr => n - (intOf i).toNat)
  case atStart => exact ⟨0, by omega, rfl, HR, hide (by simp [allMay]), HK, Nat.le_refl _⟩
  case round =>
    obtain ⟨k, hk, rfl, HR1, HM1, HK1, hsz⟩ := hrel
    by_cases hlt : k < n
    · obtain ⟨i, hi⟩ : ∃ i, l[k]? = some i := ⟨_, List.getElem?_eq_getElem (by rw [HL.out]; exact hlt)⟩
      obtain ⟨ad, rfl, _, c0, c1, c2, c3⟩ := (HV.out.kept HK1.out (by simp)).at_ hi
      have HI := hide hi
      clear hi
      have hb0 : Blk (wr.alloc (.cells i.cells 26)) wr.heap.size 26 i.cells := Blk.new wr _ _
      have hk0 := (Kept.refl [] wr).alloc (.cells i.cells 26)
      have hts : l.take (k + 1) = l.take k ++ [i] := by rw [List.take_add_one, HI.out]; rfl
      have HT := hide hts
      clear hts
      go_wp2_with fail
      refine (may_any i _).mono ?_
      rintro e w2 ⟨rfl, hk⟩
      have hs2 := hk.size
      have HK2 := hide (HK1.out.trans (hk0.trans hk (by simp)) (by simp))
      have HB2 := hide (hk.blk hb0 (by simp))
      have HR2 := hide (HR1.out.kept (hk0.trans hk (by simp)) (by simp) (by simp))
      have hb2 := HB2.out.lt
      have hp2 := HR1.out.lt
      have HBP := HB.out
      have HPP := HP.out
      have hbr : b < wr.heap.size := by omega
      have hs2' : w1.heap.size ≤ w2.heap.size := by have := hk0.size; omega
      obtain ⟨q, hq⟩ : ∃ q, wr.heap.size = q := ⟨_, rfl⟩
      rw [hq] at HB2 hb2 hp2 hbr ⊢
      clear hk hb0 hk0 c0 c1 c2 c3 hs2
      by_cases hm : i.may = true
      · rw [hm]
        have HF := hide (i.fits ((It.may_iff i).1 hm))
        have hM := hide (allMay_snoc _ i HM1.out hm)
        obtain ⟨f0, f1, f2, f3⟩ := It.cell_at HB2.out
        go_wp2_with fail
        refine (put_len p b cap A _ 1 (some ⟨w2.heap.size, 0, none⟩) [i.k, i.b, i.c] 3 3 _ rfl (HR2.out.kept (S := []) ((Kept.refl _ w2).alloc _) (by simp) (by simp)) (Vals.lit w2 [p, b] _ _ _ ([i.k, i.b, i.c].map I) rfl (by simp; omega)) (by omega)).mono ?_
        rintro e w3 ⟨rfl, hr, hk⟩
        rw [show ((1 : Int)) = ((1 : Nat) : Int) by rfl, rowF_put (7 * n) _ 1 _ rfl HF.out.1 (by simp [laid_len]; omega)] at hr
        have HR3 := hide hr
        have HB3 := hide (Kept.lit_blk _ hk HB2.out (by simp; omega))
        have HK3 := hide (HK2.out.lit _ hk (by simp; omega))
        have hs3 := hk.size
        simp at hs3
        clear hr hk f0 f1 f2 f3
        have f3 := (It.cell_at HB3.out).2.2.2
        go_wp2_with fail
        refine (put_len p b cap A _ 4 (some ⟨w3.heap.size, 0, none⟩) [i.v] 1 1 _ rfl (HR3.out.kept (S := []) ((Kept.refl _ w3).alloc _) (by simp) (by simp)) (Vals.lit w3 [p, b] _ _ _ ([i.v].map I) rfl (by simp; omega)) (by omega)).mono ?_
        rintro e w4 ⟨rfl, hr, hk⟩
        rw [show ((4 : Int)) = ((4 : Nat) : Int) by rfl, rowF_put (7 * n) _ 4 _ rfl HF.out.2 (by simp [laid_len, bytesOf_length]; omega), List.append_assoc] at hr
        have HR4 : Hid (RowAt w4 p b cap A (rowF (7 * n) (laid (l.take (k + 1))))) := hide (by rw [HT.out, laid_snoc]; exact hr)
        have HK4 := hide (HK3.out.lit _ hk (by simp; omega))
        have hs4 := hk.size
        simp at hs4
        clear hr hk
        go_wp2
        go_roundw
        case rel => exact ⟨k + 1, by omega, by go_num, HR4, hide (by rw [HT.out]; exact hM.out), HK4, by omega⟩
        case measure => simp [intOf]; omega
      · have hm' := (Bool.not_eq_true _).mp hm
        rw [hm']
        have HE := hide (encode_bad l i (List.mem_of_getElem? HI.out) hm')
        clear hm hm'
        go_wp2
        go_ret2
        rw [HE.out]
        exact ⟨none, 0, 0, rfl, rfl, .inl ⟨rfl, rfl, rfl⟩, HK2.out⟩
    · obtain rfl : k = n := by omega
      have hfull : l.take k = l := List.take_of_length_le (by rw [HL.out]; exact Nat.le_refl _)
      rw [hfull] at HR1 HM1
      have HE := hide (encode_yes l (by rw [HL.out]; exact hn) HM1.out)
      clear hfull
      go_wp2_with fail
      refine (bytes_at p b cap A _ _ HR1.out).mono ?_
      rintro e w6 ⟨A6, c6, rfl, hn6, hk6⟩
      rw [rowF_full _ _ (by rw [laid_len, HL.out])] at hn6 ⊢
      have HN6 := hide (hn6.mono HK1.out.size)
      have HK6 := hide (HK1.out.trans hk6 (by simp))
      clear hn6 hk6
      go_wp2
      go_ret2
      rw [HE.out]
      exact ⟨A6, _, c6, rfl, rfl, HN6.out, HK6.out⟩
end Go.Proofs.Ytbghkfjjmgmjmaa.item
