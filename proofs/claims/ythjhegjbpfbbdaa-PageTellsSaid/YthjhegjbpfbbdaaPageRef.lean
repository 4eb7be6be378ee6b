/- The reference's PageBytes and PageOf. -/
import Derived.Test.YthjhegjbpfbbdaaRefClosed
import Derived.Test.YthjhegjbpfbbdaaPageDec
import Derived.Test.YthjhegjbpfbbdaaAlike
import Derived.Test.YthjhegjbpfbbdaaOwns
namespace Go.Proofs.Ythjhegjbpfbbdaa.pg
open Go.RowKit Go.Proofs.Ythjhegjbpfbbdaa.mem Go.Proofs.Ythjhegjbpfbbdaa.base Go.Proofs.Ythjhegjbpfbbdaa.row Go.Proofs.Ythjhegjbpfbbdaa.rowBack Go.Proofs.Ythjhegjbpfbbdaa.fill Go.Proofs.Ythjhegjbpfbbdaa.crc Go.Proofs.Ythjhegjbpfbbdaa.crcMath Go.Proofs.Ythjhegjbpfbbdaa.ref Go.Proofs.Ythjhegjbpfbbdaa.owns
open Go.Proofs.Ythjhegjbpfbbdaa.super (sumOf sumOf_len fits4)

theorem rbytes_long (A : Option Addr) (n c : Nat) (w : World) (h : 15 < n) :
    Calls Try.prog 8 #[.slice A n c] w fun e w' => e = .returned (.tuple #[.slice none 0 0, .int .i64 1]) ∧ Kept [] w w' := by
  have g1 : (15 : Int) < n := by omega
  go_enter Try.func8, Try.ntmps8
  go_wp2
  go_ret2
  exact ⟨rfl, Kept.refl _ _⟩

theorem take_body (l : List Int) (h : l.length ≤ 15) : (rowF 64 (bytesOf 4 (l.map w4))).bs.take 60 = body l := by
  show (bytesOf 4 (l.map w4) ++ List.replicate (64 - (bytesOf 4 (l.map w4)).length) 0).take 60 = body l
  have e : (bytesOf 4 (l.map w4)).length = 4 * l.length := by rw [bytesOf_length, List.length_map]
  rw [e, body_eq, List.take_append, e, List.take_of_length_le (by rw [e]; omega), List.take_replicate]
  congr 2
  omega
theorem row_more (l : List Int) (j : Nat) (x : Int) (h : l[j]? = some x) (hj : j < 15) : ((rowF 64 (bytesOf 4 ((l.take j).map w4))).put (4 : Nat) [w4 x]).2 = rowF 64 (bytesOf 4 ((l.take (j + 1)).map w4)) := by
  have hl : (l.take j).length ≤ j := by rw [List.length_take]; omega
  rw [rowF_put 64 _ 4 [w4 x] rfl (fun m hm => by simp only [List.mem_cons, List.not_mem_nil, or_false] at hm; rw [hm]; exact w4_fits x) (by rw [bytesOf_length, List.length_map]; simp; omega), ← bytesOf_append _ _ _ (by omega), List.take_add_one, h]
  simp

set_option maxRecDepth 100000 in
set_option maxHeartbeats 1000000 in
theorem rbytes_in (A : Option Addr) (n c : Nat) (l : List Int) (w : World) (hv : Vals w [] A (l.map I)) (hl : l.length = n) (h : n ≤ 15) :
    Calls Try.prog 8 #[.slice A n c] w fun e w' => ∃ A n c', e = .returned (.tuple #[.slice A n c', .int .i64 (encode l).2]) ∧ n = (encode l).1.length ∧ Vals w' [] A ((encode l).1.map B) ∧ Kept [] w w' := by
  have HV := hide hv
  have HL := hide hl
  clear hv hl
  have g1 : ¬ (15 : Int) < n := by omega
  go_enter Try.func8, Try.ntmps8
  go_wp2_with fail
  refine (rnew_ok 64 _ (by omega) (by omega)).mono ?_
  rintro e w1 ⟨p, g, rfl, hp, hg, hr, hk⟩
  rw [show (⟨List.replicate (64 : Int).toNat 0, 0⟩ : Row) = rowF 64 (bytesOf 4 ((l.take 0).map w4)) by rw [List.take_zero, List.map_nil, bytesOf_nil]; exact rowF_nil 64] at hr
  have HR1 := hide hr
  have HK1 := hide hk
  have HP := hide hp
  have HG := hide hg
  clear hr hk hp hg
  go_wp2
  go_loopw [5] (fun i wr => ∃ j : Nat, j ≤ n ∧ i = .int .i64 j ∧ Hid (∀ x ∈ l.take j, -1 ≤ x ∧ x ≤ 4095) ∧ Hid (RefAt wr p g (rowF 64 (bytesOf 4 ((l.take j).map w4)))) ∧ Hid (Kept [] w wr)) (fun i wr => n - (intOf i).toNat)
  case atStart => exact ⟨0, by omega, rfl, hide (by simp), HR1, HK1⟩
  case round =>
    clear HR1 HK1
    obtain ⟨j, hj, rfl, HT, HR, HK⟩ := hrel
    by_cases hlt : j < n
    · obtain ⟨x, hx⟩ : ∃ x, l[j]? = some x := ⟨_, List.getElem?_eq_getElem (by rw [HL.out]; exact hlt)⟩
      obtain ⟨ad, rfl, _, a0⟩ := (HV.out.kept HK.out (by simp)) j (I x) (by rw [List.getElem?_map, hx]; rfl)
      unfold I at a0
      have HX := hide hx
      clear hx
      by_cases hgood : -1 ≤ x ∧ x ≤ 4095
      · have HGD := hide hgood
        have HM := hide (row_more l j x HX.out (by omega))
        go_wp2_with fail
        refine (base.within_yes x (-1) 4095 _ HGD.out).mono ?_
        rintro e w2 ⟨rfl, rfl⟩
        go_wp2_with fail
        refine (base.mod_any x 4294967296 _ (by omega) (by omega)).mono ?_
        rintro e w2 ⟨rfl, rfl⟩
        go_wp2_with fail
        refine (rone_any p g _ _ 4 (w4 x) _ HR.out HM.out).mono ?_
        rintro e w2 ⟨rfl, hr, hk⟩
        have HR2 := hide hr
        have HK2 := hide (HK.out.trans hk (by simp; exact ⟨HP.out, HG.out⟩))
        have HT2 := hide (take_more l j x HX.out HGD.out HT.out)
        clear hr hk a0
        go_wp2
        go_roundw
        case rel => exact ⟨j + 1, by omega, by go_num, HT2, HR2, HK2⟩
        case measure => simp [intOf]; omega
      · have HE : Hid (encode l = ([], 1)) := hide (may_no l x (List.mem_of_getElem? HX.out) hgood)
        have HGD := hide hgood
        clear hgood
        go_wp2_with fail
        refine (base.within_no x (-1) 4095 _ HGD.out).mono ?_
        rintro e w2 ⟨rfl, rfl⟩
        go_wp2
        go_ret2
        exact ⟨none, 0, 0, by rw [HE.out]; rfl, by rw [HE.out]; rfl, by rw [HE.out]; exact Vals.nil _ _ _, HK.out⟩
    · obtain rfl : j = n := by omega
      have hm : may l = true := (may_iff l).2 ⟨by rw [HL.out]; exact h, fun x hx => HT.out x (by rw [List.take_of_length_le (by rw [HL.out]; exact Nat.le_refl _)]; exact hx)⟩
      have HE : Hid (encode l = (bytes l, 0)) := hide (if_pos hm)
      have hr := HR.out
      rw [List.take_of_length_le (by rw [HL.out]; exact Nat.le_refl _)] at hr
      have HR1 := hide hr
      have hlen : (rowF 64 (bytesOf 4 (l.map w4))).bs.length = 64 := rowF_len 64 _ (by rw [bytesOf_length, List.length_map, HL.out]; omega)
      have HLEN := hide hlen
      have HBD := hide (take_body l (by rw [HL.out]; exact h))
      clear hm hr hlen HR HT hlt
      go_wp2_with fail
      refine (rclosed_any p g _ _ HR1.out HLEN.out).mono ?_
      rintro e w6 ⟨rfl, ha, hk⟩
      rw [HBD.out] at ha
      have HA6 : Hid (Arr w6 g 64 (bytes l)) := hide ha
      have HK6 := hide (HK.out.trans hk (by simp; exact ⟨HP.out, HG.out⟩))
      clear ha hk
      go_wp2
      go_ret2
      exact ⟨some ⟨g, 0, none⟩, 64, 64, by rw [HE.out]; rfl, by rw [HE.out]; exact (bytes_len l (by rw [HL.out]; exact h)).symm, by rw [HE.out]; exact HA6.out.vals (by simp), HK6.out⟩

theorem rbytes_any (A : Option Addr) (n c : Nat) (l : List Int) (w : World) (hv : Vals w [] A (l.map I)) (hl : l.length = n) :
    Calls Try.prog 8 #[.slice A n c] w fun e w' => ∃ A n c', e = .returned (.tuple #[.slice A n c', .int .i64 (encode l).2]) ∧ n = (encode l).1.length ∧ Vals w' [] A ((encode l).1.map B) ∧ Kept [] w w' := by
  by_cases h : n ≤ 15
  · exact rbytes_in A n c l w hv hl h
  · have e : encode l = ([], 1) := if_neg fun hm => h (by rw [← hl]; exact ((may_iff l).1 hm).1)
    rw [e]
    exact (rbytes_long A n c w (by omega)).mono fun _ _ ⟨h1, h3⟩ => ⟨none, 0, 0, h1, rfl, Vals.nil _ _ _, h3⟩
end Go.Proofs.Ythjhegjbpfbbdaa.pg
