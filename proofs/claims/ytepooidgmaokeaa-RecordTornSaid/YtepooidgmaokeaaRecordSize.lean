/- Package record: Size; bytes.HasPrefix. -/
import Derived.Test.YtepooidgmaokeaaRecordLead
import Derived.Test.YtepooidgmaokeaaCrcCore
import Derived.Test.YtepooidgmaokeaaBytesEq
namespace Go.Proofs.Ytepooidgmaokeaa.record
open Go.RowKit Go.Proofs.Ytepooidgmaokeaa.mem Go.Proofs.Ytepooidgmaokeaa.base Go.Proofs.Ytepooidgmaokeaa.row Go.Proofs.Ytepooidgmaokeaa.rowBack Go.Proofs.Ytepooidgmaokeaa.fill Go.Proofs.Ytepooidgmaokeaa.crc Go.Proofs.Ytepooidgmaokeaa.crcMath Go.Proofs.Ytepooidgmaokeaa.super Go.Proofs.Ytepooidgmaokeaa.item

theorem prefix_any (A P : Option Addr) (n c cp : Nat) (bs xs : List UInt8) (w : World) (hv : Vals w [] A (bs.map B)) (hl : bs.length = n) (hnc : n ≤ c) (hn : 2 ≤ n) (hx : xs.length = 2) (hv2 : Vals w [] P (xs.map B)) :
    Calls Try.prog 55 #[.slice A n c, .slice P 2 cp] w fun e w' => e = .returned (.bool (decide (bs.take 2 = xs))) ∧ w = w' := by
  have HV : Hid (Vals w [] A ((bs.take 2).map B)) := hide (by rw [List.map_take]; exact hv.first 2)
  have HV2 := hide hv2
  have HL : Hid ((bs.take 2).length = 2) := hide (by rw [List.length_take]; omega)
  have HX := hide hx
  clear hv hl hx hv2
  go_enter Try.func55, Try.ntmps55
  go_wp2_with fail
  refine (bytesEqual_any A P 2 2 c cp (bs.take 2) xs _ HL.out HX.out HV.out HV2.out).mono ?_
  rintro e w1 ⟨rfl, rfl⟩
  go_wp2
  go_ret
  exact ⟨rfl, rfl⟩

theorem from_len (A : Option Addr) (n c : Nat) (bs : List UInt8) (w : World) (hv : Vals w [] A (bs.map B)) (hl : bs.length = n) (hA : A = none → c = 0) (hm : n ≤ 65536) :
    Calls Try.prog 57 #[.slice A n c] w fun e w' => ∃ p b cap A', e = .returned (.pointer (some ⟨p, 0, none⟩)) ∧ w.heap.size ≤ p ∧ w.heap.size ≤ b ∧ b < w'.heap.size ∧ RowAt w' p b cap A' ⟨bs, 0⟩ ∧ Kept [] w w' := by
  subst hl
  exact from_at A c bs w hv hA hm
theorem start_iff (bs : List UInt8) (h : bs.length = 64) : bs.take 2 = [75, 82] ↔ bs[0]? = some 75 ∧ bs[1]? = some 82 := by
  match bs, h with
  | a :: b :: l, _ => simp

/-- Size's answer to 64 bytes with these signs. -/
theorem size_in (bs : List UInt8) (h : bs.length = 64) (hs : bs.take 2 = [75, 82]) : sizeOf bs = if (1 ≤ nOf bs ∧ nOf bs ≤ 6) ∧ kOf bs ≤ nOf bs then 1 + kOf bs else 0 := by
  unfold sizeOf
  have := (start_iff bs h).1 hs
  by_cases hc : (1 ≤ nOf bs ∧ nOf bs ≤ 6) ∧ kOf bs ≤ nOf bs
  · rw [if_pos ⟨h, this, hc.1, hc.2⟩, if_pos hc]
  · rw [if_neg (fun hn => hc ⟨hn.2.2.1, hn.2.2.2⟩), if_neg hc]

set_option maxRecDepth 100000 in
theorem size_len (A : Option Addr) (n c : Nat) (bs : List UInt8) (w : World) (hl : bs.length = n) (h : n ≠ 64) :
    Calls Try.prog 19 #[.slice A n c] w fun e w' => e = .returned (.int .i64 (sizeOf bs)) ∧ Kept [] w w' := by
  have HE : Hid (sizeOf bs = 0) := hide (if_neg (fun hn => h (by rw [← hl]; exact hn.1)))
  have hne : ((n : Int) != 64) = true := by rw [bne_iff_ne]; omega
  clear h
  go_enter Try.func19, Try.ntmps19
  go_wp2
  go_ret
  exact ⟨by rw [HE.out]; rfl, Kept.refl _ _⟩

set_option maxRecDepth 100000 in
set_option maxHeartbeats 1000000 in
theorem size_64 (A : Option Addr) (c : Nat) (bs : List UInt8) (w : World) (hv : Vals w [] A (bs.map B)) (hl : bs.length = 64) (hc : 64 ≤ c) (hA : A = none → c = 0) :
    Calls Try.prog 19 #[.slice A 64 c] w fun e w' => e = .returned (.int .i64 (sizeOf bs)) ∧ Kept [] w w' := by
  have hcv := Go.Joins.run_convert_bytes_const_at (P := Try.prog) w 28 5 #[.int .u8 75, .int .u8 82] 2 2 w.heap.size rfl Try.underlying28 Try.underlying5
  have HV := hide hv
  have HA := hide hA
  have HL := hide hl
  clear hv hA hl
  go_enter Try.func19, Try.ntmps19
  go_wp2_with fail
  refine (prefix_any A (some ⟨w.heap.size, 0, none⟩) 64 c 2 bs [75, 82] _ (HV.out.kept ((Kept.refl [] w).alloc _) (by simp)) HL.out hc (by omega) rfl (Vals.lit w [] _ _ _ ([75, 82].map B) rfl (by simp))).mono ?_
  rintro e w1 ⟨rfl, hw⟩
  have HK1 : Hid (Kept [] w w1) := hide (by rw [← hw]; exact (Kept.refl [] w).alloc _)
  clear hw hcv
  by_cases hs : bs.take 2 = [75, 82]
  · rw [decide_eq_true hs]
    have HE := hide (size_in bs HL.out hs)
    obtain ⟨⟨e1, e2, e3, e4, e5⟩, e6⟩ := sum_parts bs HL.out
    clear e1 e2 e3 e6
    have hp4 := numAt_pos bs 14 1
    have hp5 := numAt_pos bs 15 1
    have hb4 := cn_bd bs
    have hb5 := ck_bd bs
    obtain ⟨q, hq⟩ : ∃ q : Nat, nOf bs = q := ⟨_, rfl⟩
    obtain ⟨k, hk⟩ : ∃ k : Nat, kOf bs = k := ⟨_, rfl⟩
    have h4 : cn bs = (q : Int) := by rw [e4, ← hq]; unfold nOf; omega
    have h5 : ck bs = (k : Int) := by rw [e5, ← hk]; unfold kOf; omega
    rw [hq, hk] at HE
    have hq2 : q < 256 := by omega
    have hk2 : k < 256 := by omega
    have H4 := hide h4
    have H5 := hide h5
    clear e4 e5 hp4 hp5 hb4 hb5 hq hk h4 h5 hs
    go_wp2_with fail
    refine (from_len A 64 c bs _ (HV.out.kept HK1.out (by simp)) HL.out HA.out (by omega)).mono ?_
    rintro e w2 ⟨p, b, cap, A2, rfl, hp, hb, hb2, hr, hkk⟩
    have HR2 := hide hr
    have HK2 := hide (HK1.out.trans hkk (by simp))
    have HPW := hide (show w.heap.size ≤ p by have := HK1.out.size; omega)
    clear hr hkk hp hb
    go_wp2_with fail
    refine (readLead_any p b cap A2 bs _ HR2.out hb2).mono ?_
    rintro e w3 ⟨rfl, _, hkk⟩
    rw [H4.out, H5.out]
    have HK3 := hide ((HK2.out.trans hkk (by have := HPW.out; simp; omega)).alloc (.cells #[.int .i64 (cm bs), .int .i64 (cl bs), .int .i64 (cp bs), .slice none 0 0, .slice none 0 0] 25))
    clear hkk
    generalize cm bs = y1 at HK3 ⊢
    generalize cl bs = y2 at HK3 ⊢
    generalize cp bs = y3 at HK3 ⊢
    by_cases h16 : 1 ≤ q ∧ q ≤ 6
    · have HB := hide (show (1 : Int) ≤ q ∧ (q : Int) ≤ 6 by omega)
      by_cases hkq : k ≤ q
      · have HE2 : Hid (sizeOf bs = 1 + k) := hide (by rw [HE.out, if_pos ⟨h16, hkq⟩])
        have hz : decide (q < k) = false := decide_eq_false (by omega)
        clear h16 hkq
        go_wp2_with fail
        refine (between_yes q 1 6 _ HB.out).mono ?_
        rintro e w4 ⟨rfl, rfl⟩
        go_wp2
        go_ret
        exact ⟨by rw [HE2.out]; rfl, HK3.out⟩
      · have HE2 : Hid (sizeOf bs = 0) := hide (by rw [HE.out, if_neg (fun hn => hkq hn.2)])
        have hz : decide (q < k) = true := decide_eq_true (by omega)
        clear h16 hkq
        go_wp2_with fail
        refine (between_yes q 1 6 _ HB.out).mono ?_
        rintro e w4 ⟨rfl, rfl⟩
        go_wp2
        go_ret
        exact ⟨by rw [HE2.out]; rfl, HK3.out⟩
    · have HE2 : Hid (sizeOf bs = 0) := hide (by rw [HE.out, if_neg (fun hn => h16 hn.1)])
      have HB := hide (show ¬ ((1 : Int) ≤ q ∧ (q : Int) ≤ 6) by omega)
      clear h16
      go_wp2_with fail
      refine (between_no q 1 6 _ HB.out).mono ?_
      rintro e w4 ⟨rfl, rfl⟩
      go_wp2
      go_ret
      exact ⟨by rw [HE2.out]; rfl, HK3.out⟩
  · rw [decide_eq_false hs]
    have HE : Hid (sizeOf bs = 0) := hide (if_neg (fun hn => hs ((start_iff bs HL.out).2 hn.2.1)))
    clear hs
    go_wp2
    go_ret
    exact ⟨by rw [HE.out]; rfl, HK1.out⟩

theorem size_any (A : Option Addr) (n c : Nat) (bs : List UInt8) (w : World) (hv : Vals w [] A (bs.map B)) (hl : bs.length = n) (hnc : n ≤ c) (hA : A = none → c = 0) :
    Calls Try.prog 19 #[.slice A n c] w fun e w' => e = .returned (.int .i64 (sizeOf bs)) ∧ Kept [] w w' := by
  by_cases h : n = 64
  · subst h
    exact size_64 A c bs w hv hl hnc hA
  · exact size_len A n c bs w hl h
end Go.Proofs.Ytepooidgmaokeaa.record
