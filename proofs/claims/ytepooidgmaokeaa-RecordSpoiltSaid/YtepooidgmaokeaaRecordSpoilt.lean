/-
  The given statement RecordSpoiltSaid is proved: whatever the arguments are, the law returns true and leaves its input as it was. No conditions.
-/
import Derived.Test.YtepooidgmaokeaaRecordAwake
import Derived.Test.YtepooidgmaokeaaRecordMadeW
import Derived.Test.YtepooidgmaokeaaOpen
import Derived.WalkKit
import Derived.ProofKit
import Derived.OpenShut
import Derived.ShutString
import Derived.ChangeOld
import Derived.Below
namespace Go.Proofs.Ytepooidgmaokeaa.recordSpoilt
open Go.ChangeShapes Go.WideShapes Go.ChangeAt Go.RowKit
open Go.ChangeMaps (open_string shut_string)
open Go.Proofs.Ytepooidgmaokeaa.mem Go.Proofs.Ytepooidgmaokeaa.base Go.Proofs.Ytepooidgmaokeaa.row Go.Proofs.Ytepooidgmaokeaa.crc Go.Proofs.Ytepooidgmaokeaa.record
set_option linter.unusedVariables false

theorem own : ownKnob Try.prog.godebug = none := by kernel_rfl
theorem laidOut : laidOutB Try.prog = true := by kernel_rfl

theorem walk_out (A : Option Addr) (n c : Nat) (a1 a2 a3 a4 : Int) (a5 : Bool) (w : World) (h : n < 1 ∨ 1 ≤ n ∧ 6 < n) :
    Calls Try.prog 6 #[.slice A n c, .int .i64 a1, .int .i64 a2, .int .i64 a3, .int .u32 a4, .bool a5] w fun e w' => e = .returned (.bool true) ∧ Below w.heap.size w w' := by
  rcases h with h | ⟨h1, h2⟩
  · have h' : (n : Int) < 1 := by omega
    clear h
    go_enter Try.func6, Try.ntmps6
    go_wp2_with fail
    refine (awake_any _).mono ?_
    rintro e W2 ⟨rfl, hk⟩
    have HK2 := hide hk
    clear hk
    go_wp2
    go_ret
    exact ⟨rfl, HK2.out.below (by simp)⟩
  · have h' : ¬ (n : Int) < 1 := by omega
    have h'' : (6 : Int) < n := by omega
    clear h1 h2
    go_enter Try.func6, Try.ntmps6
    go_wp2_with fail
    refine (awake_any _).mono ?_
    rintro e W2 ⟨rfl, hk⟩
    have HK2 := hide hk
    clear hk
    go_wp2
    go_ret
    exact ⟨rfl, HK2.out.below (by simp)⟩

theorem spoilt2 (X : List UInt8) (any : Bool) (h : (record.decode X).2.2 = 0 ↔ any = false) : (any = true ∧ (record.decode X).2.2 = 2) ∨ (any = false ∧ (record.decode X).2.2 = 0) := by
  cases any with
  | false => exact .inr ⟨rfl, h.2 rfl⟩
  | true =>
    refine .inl ⟨rfl, ?_⟩
    rcases decode_or X with ⟨T, _, _, h3⟩ | h3
    · rw [h3] at h
      cases h.1 rfl
    · rw [h3]
theorem two_B (a b : List UInt8) : ([] ++ a.map B) ++ b.map B = (a ++ b).map B := by rw [List.map_append, List.nil_append]
theorem own_lit' (w : World) (q : Nat) (h : w.heap.size = q) : (w.alloc (.cells #[] 5)).ownsRow q 5 1 (.slice (some ⟨q, 0, none⟩) 0 0) 0 [] := by
  subst h
  exact own_lit w

set_option maxRecDepth 100000 in
set_option maxHeartbeats 2000000 in
theorem walk_sum (A : Option Addr) (n c : Nat) (lsn fill at_ : Int) (p : Nat) (ks : List Int) (w : World) (hv : Vals w [] A (ks.map I)) (hl : ks.length = n) (h1 : 1 ≤ n) (h6 : n ≤ 6) (hp : p < 4294967296) (hbk : True) :
    Calls Try.prog 6 #[.slice A n c, .int .i64 lsn, .int .i64 fill, .int .i64 at_, .int .u32 (p : Int), .bool false] w fun e w' => e = .returned (.bool true) ∧ Below w.heap.size w w' := by
  have hok : (made ks lsn 7 fill).ok := made_ok ks lsn 7 fill (by rw [hl]; exact h1) (by rw [hl]; exact h6)
  have hmade := fun w hv => made_any A n c ks lsn 7 fill w hv hl h6
  obtain ⟨R, hR⟩ : ∃ R, made ks lsn 7 fill = R := ⟨_, rfl⟩
  rw [hR] at hok
  try rw [hR] at hbk
  simp only [hR] at hmade
  have HV := hide hv
  have HMD := hide hmade
  have HOK := hide hok
  obtain ⟨k, hk0⟩ : ∃ k, R.bks.length = k := ⟨_, rfl⟩
  try rw [hk0] at hbk
  have hk6 : k ≤ 6 := by rw [← hk0]; exact hok.few
  have hm6 : R.its.length ≤ 6 := hok.2.2.2.1.2
  have hbl := R.bytes_len hok
  rw [hk0] at hbl
  have htl : R.tail.length = 64 * k := by unfold Rc.tail; rw [flat_len _ hok.2.2.2.2.2.2, hk0]
  obtain ⟨N, hN⟩ : ∃ N, 64 * (1 + k) = N := ⟨_, rfl⟩
  rw [hN] at hbl
  have HBL := hide hbl
  have HTL := hide htl
  have HNN := hide hN
  have hN3 : 64 ≤ N := by omega
  have hN4 : N ≤ 448 := by omega
  have h1' : ¬ (n : Int) < 1 := by omega
  have h6' : ¬ (6 : Int) < n := by omega
  have HB60 := hide (R.body_len hm6)
  have hbs : R.body ++ (R.sum4 ++ R.tail) = R.bytes := by unfold Rc.bytes Rc.first; rw [List.append_assoc]
  have HBS := hide hbs
  have HP := hide hp
  have HS4 := hide R.sum4_len
  have HF64 := hide (R.first_len hm6)
  clear hv hmade hok hR hk0 hbl htl hbs h1 h6 hm6 hl hp
  go_enter Try.func6, Try.ntmps6
  go_wp2_with fail
  refine (HMD.out _ HV.out).mono ?_
  rintro e w1 ⟨L1, m1, lc1, P1, k1, pc1, rfl, hrc, hk⟩
  have HR1 := hide hrc
  have HK1 := hide hk
  clear hrc hk HMD
  go_wp2_with fail
  refine (encode_yes R L1 P1 m1 lc1 k1 pc1 _ HR1.out HOK.out).mono ?_
  rintro e w3 ⟨P3, p3, rfl, hnb, hk⟩
  have hkk1 : 64 * (1 + k1) = N := by
    have h1 := R.bytes_len HOK.out
    rw [HBL.out, HR1.out.hk] at h1
    omega
  rw [hkk1]
  obtain ⟨b3, rfl, _, harr⟩ := hnb.pos (by rw [HBL.out]; omega)
  have hle := harr.len
  rw [HBL.out] at hle
  have HA3 := hide harr
  have HK3 := hide (HK1.out.trans hk (by simp))
  obtain ⟨y, hy⟩ : ∃ y : Nat, R.sum = y := ⟨_, rfl⟩
  rw [hy]
  have hz2 : ¬ ((N : Int) < 64) := by omega
  clear hk hnb harr hy HR1 HK1 hkk1 hN
  go_wp2_with fail
  refine (turned_below (some ⟨b3, 0, none⟩) N 60 p3 at_ p R.body (R.sum4 ++ R.tail) _ (by rw [HBS.out]; exact HA3.out.vals (by simp)) (by rw [HBS.out]; exact HBL.out) HB60.out hle (by omega) (by omega) (by omega) HP.out).mono ?_
  rintro e w4 ⟨gt, first, out, any, rfl, _, hfirst, hturn, hax, hk⟩
  have hf : first < 480 := by
    have := Int.emod_lt_of_pos at_ (show (0 : Int) < ((8 * 60 : Nat) : Int) by omega)
    have := Int.emod_nonneg at_ (show ((8 * 60 : Nat) : Int) ≠ 0 by omega)
    omega
  have HSP := hide (spoilt2 _ any (spoilt_body HOK.out out first p any hturn hf))
  have HLX : Hid ((out ++ (R.sum4 ++ R.tail)).length = N) := hide (by
    have := congrArg List.length HBS.out
    rw [HBL.out, List.length_append, List.length_append] at this
    rw [List.length_append, List.length_append, hturn.len]
    exact this)
  have HX4 := hide (hax.vals (S := []) (by simp))
  have HK4 := hide (HK3.out.trans hk (by simp))
  clear hfirst hturn hax hk hf HA3 HK3
  go_wp2_with fail
  refine (decode_any (some ⟨gt, 0, none⟩) N N (out ++ (R.sum4 ++ R.tail)) _ HX4.out HLX.out (by simp) (by omega)).mono ?_
  rintro e w9 ⟨L9, m9, lc9, P9, k9, pc9, rfl, hrc, hk⟩
  have HK9 := hide ((HK4.out.trans hk (by simp)).alloc (.cells #[.int .i64 (record.decode (out ++ (R.sum4 ++ R.tail))).1.m, .int .i64 (record.decode (out ++ (R.sum4 ++ R.tail))).1.l, .int .i64 (record.decode (out ++ (R.sum4 ++ R.tail))).1.p, .slice L9 m9 lc9, .slice P9 k9 pc9] 25))
  clear hrc hk
  obtain ⟨T, hT⟩ : ∃ T, (record.decode (out ++ (R.sum4 ++ R.tail))).1 = T := ⟨_, rfl⟩
  obtain ⟨ss, hss⟩ : ∃ ss, (record.decode (out ++ (R.sum4 ++ R.tail))).2.1 = ss := ⟨_, rfl⟩
  rw [hT] at HK9
  rw [hT, hss]
  clear hT hss
  rcases HSP.out with ⟨ha, he⟩ | ⟨ha, he⟩
  · rw [he]
    subst ha
    clear he HSP
    go_wp2_with fail
    refine (awake_any _).mono ?_
    rintro e w10 ⟨rfl, hk⟩
    have HK10 := hide (HK9.out.trans hk (by simp))
    clear hk
    go_wp2
    go_ret
    exact ⟨rfl, HK10.out.below (by simp)⟩
  · rw [he]
    subst ha
    clear he HSP
    go_wp2_with fail
    refine (awake_any _).mono ?_
    rintro e w10 ⟨rfl, hk⟩
    have HK10 := hide (HK9.out.trans hk (by simp))
    clear hk
    go_wp2
    go_ret
    exact ⟨rfl, HK10.out.below (by simp)⟩

set_option maxRecDepth 100000 in
set_option maxHeartbeats 2000000 in
theorem walk_none (A : Option Addr) (n c : Nat) (lsn fill at_ : Int) (p : Nat) (ks : List Int) (w : World) (hv : Vals w [] A (ks.map I)) (hl : ks.length = n) (h1 : 1 ≤ n) (h6 : n ≤ 6) (hp : p < 4294967296) (hbk : (made ks lsn 7 fill).bks.length = 0) :
    Calls Try.prog 6 #[.slice A n c, .int .i64 lsn, .int .i64 fill, .int .i64 at_, .int .u32 (p : Int), .bool true] w fun e w' => e = .returned (.bool true) ∧ Below w.heap.size w w' := by
  have hok : (made ks lsn 7 fill).ok := made_ok ks lsn 7 fill (by rw [hl]; exact h1) (by rw [hl]; exact h6)
  have hmade := fun w hv => made_any A n c ks lsn 7 fill w hv hl h6
  obtain ⟨R, hR⟩ : ∃ R, made ks lsn 7 fill = R := ⟨_, rfl⟩
  rw [hR] at hok
  try rw [hR] at hbk
  simp only [hR] at hmade
  have HV := hide hv
  have HMD := hide hmade
  have HOK := hide hok
  obtain ⟨k, hk0⟩ : ∃ k, R.bks.length = k := ⟨_, rfl⟩
  try rw [hk0] at hbk
  have hk6 : k ≤ 6 := by rw [← hk0]; exact hok.few
  have hm6 : R.its.length ≤ 6 := hok.2.2.2.1.2
  have hbl := R.bytes_len hok
  rw [hk0] at hbl
  have htl : R.tail.length = 64 * k := by unfold Rc.tail; rw [flat_len _ hok.2.2.2.2.2.2, hk0]
  obtain ⟨N, hN⟩ : ∃ N, 64 * (1 + k) = N := ⟨_, rfl⟩
  rw [hN] at hbl
  have HBL := hide hbl
  have HTL := hide htl
  have HNN := hide hN
  have hN3 : 64 ≤ N := by omega
  have hN4 : N ≤ 448 := by omega
  have h1' : ¬ (n : Int) < 1 := by omega
  have h6' : ¬ (6 : Int) < n := by omega
  have HB60 := hide (R.body_len hm6)
  have hbs : R.body ++ (R.sum4 ++ R.tail) = R.bytes := by unfold Rc.bytes Rc.first; rw [List.append_assoc]
  have HBS := hide hbs
  have HP := hide hp
  have HS4 := hide R.sum4_len
  have HF64 := hide (R.first_len hm6)
  clear hv hmade hok hR hk0 hbl htl hbs h1 h6 hm6 hl hp
  go_enter Try.func6, Try.ntmps6
  go_wp2_with fail
  refine (HMD.out _ HV.out).mono ?_
  rintro e w1 ⟨L1, m1, lc1, P1, k1, pc1, rfl, hrc, hk⟩
  have HR1 := hide hrc
  have HK1 := hide hk
  clear hrc hk HMD
  go_wp2_with fail
  refine (encode_yes R L1 P1 m1 lc1 k1 pc1 _ HR1.out HOK.out).mono ?_
  rintro e w3 ⟨P3, p3, rfl, hnb, hk⟩
  have hkk1 : 64 * (1 + k1) = N := by
    have h1 := R.bytes_len HOK.out
    rw [HBL.out, HR1.out.hk] at h1
    omega
  rw [hkk1]
  obtain ⟨b3, rfl, _, harr⟩ := hnb.pos (by rw [HBL.out]; omega)
  have hle := harr.len
  rw [HBL.out] at hle
  have HA3 := hide harr
  have HK3 := hide (HK1.out.trans hk (by simp))
  obtain ⟨y, hy⟩ : ∃ y : Nat, R.sum = y := ⟨_, rfl⟩
  rw [hy]
  have hz2 : ¬ ((N : Int) < 64) := by omega
  clear hk hnb harr hy HR1 HK1 hkk1 hN
  go_wp2_with fail
  refine (turned_below (some ⟨b3, 0, none⟩) N 60 p3 at_ p R.body (R.sum4 ++ R.tail) _ (by rw [HBS.out]; exact HA3.out.vals (by simp)) (by rw [HBS.out]; exact HBL.out) HB60.out hle (by omega) (by omega) (by omega) HP.out).mono ?_
  rintro e w4 ⟨gt, first, out, any, rfl, _, hfirst, hturn, hax, hk⟩
  have hf : first < 480 := by
    have := Int.emod_lt_of_pos at_ (show (0 : Int) < ((8 * 60 : Nat) : Int) by omega)
    have := Int.emod_nonneg at_ (show ((8 * 60 : Nat) : Int) ≠ 0 by omega)
    omega
  have HSP := hide (spoilt2 _ any (spoilt_body HOK.out out first p any hturn hf))
  have HLX : Hid ((out ++ (R.sum4 ++ R.tail)).length = N) := hide (by
    have := congrArg List.length HBS.out
    rw [HBL.out, List.length_append, List.length_append] at this
    rw [List.length_append, List.length_append, hturn.len]
    exact this)
  have HX4 := hide (hax.vals (S := []) (by simp))
  have HK4 := hide (HK3.out.trans hk (by simp))
  clear hfirst hturn hax hk hf HA3 HK3
  have hg64 : ¬ (64 : Int) < N := by have := HNN.out; omega
  go_wp2_with fail
  refine (decode_any (some ⟨gt, 0, none⟩) N N (out ++ (R.sum4 ++ R.tail)) _ HX4.out HLX.out (by simp) (by omega)).mono ?_
  rintro e w9 ⟨L9, m9, lc9, P9, k9, pc9, rfl, hrc, hk⟩
  have HK9 := hide ((HK4.out.trans hk (by simp)).alloc (.cells #[.int .i64 (record.decode (out ++ (R.sum4 ++ R.tail))).1.m, .int .i64 (record.decode (out ++ (R.sum4 ++ R.tail))).1.l, .int .i64 (record.decode (out ++ (R.sum4 ++ R.tail))).1.p, .slice L9 m9 lc9, .slice P9 k9 pc9] 25))
  clear hrc hk
  obtain ⟨T, hT⟩ : ∃ T, (record.decode (out ++ (R.sum4 ++ R.tail))).1 = T := ⟨_, rfl⟩
  obtain ⟨ss, hss⟩ : ∃ ss, (record.decode (out ++ (R.sum4 ++ R.tail))).2.1 = ss := ⟨_, rfl⟩
  rw [hT] at HK9
  rw [hT, hss]
  clear hT hss
  rcases HSP.out with ⟨ha, he⟩ | ⟨ha, he⟩
  · rw [he]
    subst ha
    clear he HSP
    go_wp2_with fail
    refine (awake_any _).mono ?_
    rintro e w10 ⟨rfl, hk⟩
    have HK10 := hide (HK9.out.trans hk (by simp))
    clear hk
    go_wp2
    go_ret
    exact ⟨rfl, HK10.out.below (by simp)⟩
  · rw [he]
    subst ha
    clear he HSP
    go_wp2_with fail
    refine (awake_any _).mono ?_
    rintro e w10 ⟨rfl, hk⟩
    have HK10 := hide (HK9.out.trans hk (by simp))
    clear hk
    go_wp2
    go_ret
    exact ⟨rfl, HK10.out.below (by simp)⟩

set_option maxRecDepth 100000 in
set_option maxHeartbeats 2000000 in
theorem walk_blocks (A : Option Addr) (n c : Nat) (lsn fill at_ : Int) (p : Nat) (ks : List Int) (w : World) (hv : Vals w [] A (ks.map I)) (hl : ks.length = n) (h1 : 1 ≤ n) (h6 : n ≤ 6) (hp : p < 4294967296) (hbk : 0 < (made ks lsn 7 fill).bks.length) :
    Calls Try.prog 6 #[.slice A n c, .int .i64 lsn, .int .i64 fill, .int .i64 at_, .int .u32 (p : Int), .bool true] w fun e w' => e = .returned (.bool true) ∧ Below w.heap.size w w' := by
  have hok : (made ks lsn 7 fill).ok := made_ok ks lsn 7 fill (by rw [hl]; exact h1) (by rw [hl]; exact h6)
  have hmade := fun w hv => made_any A n c ks lsn 7 fill w hv hl h6
  obtain ⟨R, hR⟩ : ∃ R, made ks lsn 7 fill = R := ⟨_, rfl⟩
  rw [hR] at hok
  try rw [hR] at hbk
  simp only [hR] at hmade
  have HV := hide hv
  have HMD := hide hmade
  have HOK := hide hok
  obtain ⟨k, hk0⟩ : ∃ k, R.bks.length = k := ⟨_, rfl⟩
  try rw [hk0] at hbk
  have hk6 : k ≤ 6 := by rw [← hk0]; exact hok.few
  have hm6 : R.its.length ≤ 6 := hok.2.2.2.1.2
  have hbl := R.bytes_len hok
  rw [hk0] at hbl
  have htl : R.tail.length = 64 * k := by unfold Rc.tail; rw [flat_len _ hok.2.2.2.2.2.2, hk0]
  obtain ⟨N, hN⟩ : ∃ N, 64 * (1 + k) = N := ⟨_, rfl⟩
  rw [hN] at hbl
  have HBL := hide hbl
  have HTL := hide htl
  have HNN := hide hN
  have hN3 : 64 ≤ N := by omega
  have hN4 : N ≤ 448 := by omega
  have h1' : ¬ (n : Int) < 1 := by omega
  have h6' : ¬ (6 : Int) < n := by omega
  have HB60 := hide (R.body_len hm6)
  have hbs : R.body ++ (R.sum4 ++ R.tail) = R.bytes := by unfold Rc.bytes Rc.first; rw [List.append_assoc]
  have HBS := hide hbs
  have HP := hide hp
  have HS4 := hide R.sum4_len
  have HF64 := hide (R.first_len hm6)
  clear hv hmade hok hR hk0 hbl htl hbs h1 h6 hm6 hl hp
  go_enter Try.func6, Try.ntmps6
  go_wp2_with fail
  refine (HMD.out _ HV.out).mono ?_
  rintro e w1 ⟨L1, m1, lc1, P1, k1, pc1, rfl, hrc, hk⟩
  have HR1 := hide hrc
  have HK1 := hide hk
  clear hrc hk HMD
  go_wp2_with fail
  refine (encode_yes R L1 P1 m1 lc1 k1 pc1 _ HR1.out HOK.out).mono ?_
  rintro e w3 ⟨P3, p3, rfl, hnb, hk⟩
  have hkk1 : 64 * (1 + k1) = N := by
    have h1 := R.bytes_len HOK.out
    rw [HBL.out, HR1.out.hk] at h1
    omega
  rw [hkk1]
  obtain ⟨b3, rfl, _, harr⟩ := hnb.pos (by rw [HBL.out]; omega)
  have hle := harr.len
  rw [HBL.out] at hle
  have HA3 := hide harr
  have HK3 := hide (HK1.out.trans hk (by simp))
  obtain ⟨y, hy⟩ : ∃ y : Nat, R.sum = y := ⟨_, rfl⟩
  rw [hy]
  have hz2 : ¬ ((N : Int) < 64) := by omega
  clear hk hnb harr hy HR1 HK1 hkk1 hN
  go_wp2_with fail
  refine (turned_below (some ⟨b3, 0, none⟩) N 60 p3 at_ p R.body (R.sum4 ++ R.tail) _ (by rw [HBS.out]; exact HA3.out.vals (by simp)) (by rw [HBS.out]; exact HBL.out) HB60.out hle (by omega) (by omega) (by omega) HP.out).mono ?_
  rintro e w4 ⟨gt, first, out, any, rfl, _, hfirst, hturn, hax, hk⟩
  have hf : first < 480 := by
    have := Int.emod_lt_of_pos at_ (show (0 : Int) < ((8 * 60 : Nat) : Int) by omega)
    have := Int.emod_nonneg at_ (show ((8 * 60 : Nat) : Int) ≠ 0 by omega)
    omega
  have HA4 := hide (HA3.out.kept hk (by simp))
  have HK4 := hide (HK3.out.trans hk (by simp))
  have hg64 : (64 : Int) < N := by have := HNN.out; omega
  have hp64 : (64 : Int) ≤ p3 := by omega
  have hp65 : ¬ (p3 = 64) := by omega
  have hN65 : (64 : Int) ≤ N := by omega
  have hsub : IntKind.i64.wrap ((N : Int) - 64) = ((N - 64 : Nat) : Int) := by rw [IntWalk.i64_in _ (by omega)]; omega
  have hsub2 : (N : Int) - 64 = ((N - 64 : Nat) : Int) := by omega
  have HVT : Hid (Vals w4 [] (some ⟨b3, 64, none⟩) (R.tail.map B)) := hide (by
    have := (HA4.out.vals (S := []) (by simp)).cut 64 (64 * k)
    rw [← List.map_drop, ← List.map_take] at this
    unfold Rc.bytes at this
    rw [List.drop_left' HF64.out, List.take_of_length_le (by rw [HTL.out]; exact Nat.le_refl _)] at this
    exact this)
  have HNT : Hid (R.tail.length = N - 64) := hide (by rw [HTL.out]; have := HNN.out; omega)
  clear hfirst hturn hax hk hf HA3 HK3
  obtain ⟨M, hM⟩ : ∃ M, N - 64 = M := ⟨_, rfl⟩
  have hM1 : 64 ≤ M := by have := HNN.out; omega
  have hM2 : M ≤ 448 := by omega
  rw [hM] at HNT hsub hsub2
  have HM := hide hM
  clear hM
  go_wp2_with fail
  rw [HM.out]
  refine (turned_any (some ⟨b3, 64, none⟩) M (p3 - 64) at_ p R.tail _ HVT.out HNT.out (by have := HM.out; omega) (by omega) (by omega) HP.out).mono ?_
  rintro e w5 ⟨g5, first5, out5, any5, rfl, _, hfirst, hturn, hax, hk⟩
  have hf : first5 < 8 * R.tail.length := by
    rw [HNT.out]
    have := Int.emod_lt_of_pos at_ (show (0 : Int) < ((8 * M : Nat) : Int) by omega)
    have := Int.emod_nonneg at_ (show ((8 * M : Nat) : Int) ≠ 0 by omega)
    omega
  have HSP := hide (spoilt2 _ any5 (spoilt_tail HOK.out out5 first5 p any5 hturn hf))
  have HLO5 : Hid (out5.length = M) := hide (by rw [hturn.len]; exact HNT.out)
  have HX5 := hide (hax.vals (S := []) (by simp))
  have HA5 := hide (HA4.out.kept hk (by simp))
  have HK5 := hide (HK4.out.trans hk (by simp))
  have HVF : Hid (Vals w5 [] (some ⟨b3, 0, none⟩) (R.first.map B)) := hide (by
    have := (HA5.out.vals (S := []) (by simp)).first 64
    rw [← List.map_take] at this
    unfold Rc.bytes at this
    rwa [List.take_left' HF64.out] at this)
  clear hfirst hturn hax hk hf HA4 HK4 HVT
  obtain ⟨q5, hq5⟩ : ∃ q5, w5.heap.size = q5 := ⟨_, rfl⟩
  have HXQ := hide (Vals.away (S' := [q5]) HX5.out (by simp; omega))
  go_wp2_with (first
    | (at_builtin; refine wpList_append_vals rfl (.tmp 72) (.tmp 74) 28 rfl q5 5 (.int .u8 0) 1 1 Try.underlying28 info8 rfl (by omega) (.slice (some ⟨q5, 0, none⟩) 0 0) 0 [] rfl (own_lit' w5 q5 hq5) [] (some ⟨b3, 0, none⟩) 64 p3 (R.first.map B) rfl (by rw [List.length_map, HF64.out]) (HVF.out.kept ((Kept.refl [] _).alloc _) (by simp)) (oneCell_B _) (by simp only [maxLen]; omega) (by omega) (by simp; omega) ?_; intro v9 w9 hown9 hk9 hat9)
    | (at_builtin; refine wpList_append_vals rfl (.tmp 75) (.tmp 76) 28 rfl q5 5 (.int .u8 0) 1 1 Try.underlying28 info8 rfl (by omega) v9 (0 + 64) ([] ++ R.first.map B) rfl hown9 [q5] (some ⟨g5, 0, none⟩) M M (out5.map B) rfl (by rw [List.length_map, HLO5.out, Nat.mul_one]) ((HXQ.out.kept ((Kept.refl [] w5).alloc (.cells #[] 5)) (by simp)).kept hk9 (by simp [Value.ownBlock])) (oneCell_B _) (by simp only [maxLen]; omega) (by omega) (by have := hk9.size; simp at this; omega) ?_; intro v10 w10 hown10 hk10 hat10; rw [two_B] at hown10; obtain ⟨A10, c10, rfl, hc10, hA10, hv10, hg10⟩ := base.own_slice hown10))
  have hwq := HK5.out.size
  have HK10 := hide (((HK5.out.alloc (.cells #[] 5)).trans hk9 (fun i hi => .inr (by simp [Value.ownBlock] at hi; omega))).trans hk10 (fun i hi => .inr (by have := (own_blk hown9 i hi).1; omega)))
  have HV10 := hide (hv10 [] (by simp))
  rw [Nat.zero_add] at hc10
  obtain ⟨M2, hM2'⟩ : ∃ M2, 64 + M = M2 := ⟨_, rfl⟩
  have hN2 : M2 ≤ 512 := by omega
  have HL10 : Hid ((R.first ++ out5).length = M2) := hide (by rw [List.length_append, HF64.out, HLO5.out]; omega)
  rw [hM2'] at hc10
  clear hk9 hk10 hv10 hown9 hown10 hg10 hat9 hat10 hq5 hwq
  go_wp2_with fail
  rw [hM2']
  clear hM2'
  refine (decode_any A10 M2 c10 (R.first ++ out5) _ HV10.out HL10.out hA10 (by omega)).mono ?_
  rintro e w11 ⟨L9, m9, lc9, P9, k9, pc9, rfl, hrc, hk⟩
  have HK9 := hide ((HK10.out.trans hk (by simp)).alloc (.cells #[.int .i64 (record.decode (R.first ++ out5)).1.m, .int .i64 (record.decode (R.first ++ out5)).1.l, .int .i64 (record.decode (R.first ++ out5)).1.p, .slice L9 m9 lc9, .slice P9 k9 pc9] 25))
  clear hrc hk
  obtain ⟨T, hT⟩ : ∃ T, (record.decode (R.first ++ out5)).1 = T := ⟨_, rfl⟩
  obtain ⟨ss, hss⟩ : ∃ ss, (record.decode (R.first ++ out5)).2.1 = ss := ⟨_, rfl⟩
  rw [hT] at HK9
  rw [hT, hss]
  clear hT hss
  rcases HSP.out with ⟨ha, he⟩ | ⟨ha, he⟩
  · rw [he]
    subst ha
    clear he HSP
    go_wp2_with fail
    refine (awake_any _).mono ?_
    rintro e w12 ⟨rfl, hk⟩
    have HK12 := hide (HK9.out.trans hk (by simp))
    clear hk
    go_wp2
    go_ret
    exact ⟨rfl, HK12.out.below (by simp)⟩
  · rw [he]
    subst ha
    clear he HSP
    go_wp2_with fail
    refine (awake_any _).mono ?_
    rintro e w12 ⟨rfl, hk⟩
    have HK12 := hide (HK9.out.trans hk (by simp))
    clear hk
    go_wp2
    go_ret
    exact ⟨rfl, HK12.out.below (by simp)⟩

theorem walk (a0 : Option Addr) (len0 cap0 : Nat) (z0 : List Int) (a1 : Int) (a2 : Int) (a3 : Int) (a4 : Int) (a5 : Bool) (w : World) (w0 : IsRow .i64 w a0 len0 cap0 z0) (w1 : (Lit.int .i64 a1).wf = true) (w2 : (Lit.int .i64 a2).wf = true) (w3 : (Lit.int .i64 a3).wf = true) (w4 : (Lit.int .u32 a4).wf = true) :
    Calls Try.prog 6 #[.slice a0 len0 cap0, .int .i64 a1, .int .i64 a2, .int .i64 a3, .int .u32 a4, .bool a5] w fun e w' => e = .returned (.bool true) ∧ Below w.heap.size w w' := by
  have hu4 := bounds_u32 w4
  obtain ⟨p, rfl⟩ : ∃ p : Nat, a4 = p := ⟨a4.toNat, by omega⟩
  obtain ⟨ks, hl, hnc, hv, hA⟩ := w0.ints
  by_cases h1 : 1 ≤ len0
  · by_cases h6 : len0 ≤ 6
    · cases a5
      · exact walk_sum a0 len0 cap0 a1 a2 a3 p ks w hv hl h1 h6 (by omega) trivial
      · by_cases hb : (made ks a1 7 a2).bks.length = 0
        · exact walk_none a0 len0 cap0 a1 a2 a3 p ks w hv hl h1 h6 (by omega) hb
        · exact walk_blocks a0 len0 cap0 a1 a2 a3 p ks w hv hl h1 h6 (by omega) (by omega)
    · exact walk_out a0 len0 cap0 a1 a2 a3 p a5 w (.inr ⟨h1, by omega⟩)
  · exact walk_out a0 len0 cap0 a1 a2 a3 p a5 w (.inl (by omega))

/-! ### the row's step, as the guide's skeleton has it -/
set_option maxRecDepth 100000 in
theorem lifted (os : Os) (started : os.Started) (H : Type) (enc : TypeId × Value → H) :
    ReturnsInHanded {} Try.checked os 6 .any (Rows.recordSpoiltSpec.pre6 enc Try.prog Try.f6 Rows.recordSpoiltRow.domain false) (Rows.recordSpoiltSpec.post enc Try.prog Try.f6 false true false false) := by
  refine returnsInHanded_of_change (C := Try.checked) own started (by kernel_rfl) Try.func6
    (ChangeSpec.witness6 (enc := enc) (C := Try.checked) false ⟨#[], #[.slice none 0 0, .int .i64 0, .int .i64 0, .int .i64 0, .int .u32 0, .bool false], []⟩ 8 (by kernel_rfl) (by kernel_rfl) (by kernel_rfl) (by kernel_rfl)) ?_
  intro W base args ds gs before hval0 hW hcnd _
  have hval : ∀ (j : Nat) t v, Try.f6.params[j]? = some t → args[j]? = some v → Value.okWide Try.prog W .any base t v := hval0
  have hW' := hW
  obtain ⟨p, q, hA0, hV, rfl, hfz, hnd⟩ := hW
  have hA : DataW.TrodAll enc Try.prog W 0 (fun _ => true) true Try.f6.params.toList args.toList ds p := hA0
  rw [Try.params6] at hA hval
  obtain ⟨v0, vs0, d0, ds0, p0, q0, hargs, rfl, rfl, h0, r0⟩ := trodAll_cons hA
  obtain ⟨v1, vs1, d1, ds1, p1, q1, rfl, rfl, rfl, h1, r1⟩ := trodAll_cons r0
  obtain ⟨v2, vs2, d2, ds2, p2, q2, rfl, rfl, rfl, h2, r2⟩ := trodAll_cons r1
  obtain ⟨v3, vs3, d3, ds3, p3, q3, rfl, rfl, rfl, h3, r3⟩ := trodAll_cons r2
  obtain ⟨v4, vs4, d4, ds4, p4, q4, rfl, rfl, rfl, h4, r4⟩ := trodAll_cons r3
  obtain ⟨v5, vs5, d5, ds5, p5, q5, rfl, rfl, rfl, h5, r5⟩ := trodAll_cons r4
  obtain ⟨rfl, rfl, rfl⟩ := trodAll_nil r5
  obtain rfl : args = #[v0, v1, v2, v3, v4, v5] := by cases args; simp_all
  obtain ⟨rfl, rfl⟩ := trodVars_none hV
  obtain ⟨a0, len0, cap0, rfl⟩ := okWide_slice Try.underlying43 (hval 0 43 v0 rfl rfl)
  have k0 := h0
  have lt0 : ∀ x ∈ p0, x.block < W.heap.size := by obtain ⟨m, hm⟩ := k0; exact DataW.trod_lt m _ _ _ hm
  obtain ⟨z0, w0⟩ : ∃ zs, IsRow .i64 W a0 len0 cap0 zs := by
    obtain ⟨fuel, hf⟩ := h0
    rcases open_ints Try.underlying43 Try.underlying3 (by kernel_rfl) hf with ⟨hcs, _⟩ | ⟨x, l, c, zs, hcs, _, hl, hm, hz, _, hcell, hwz⟩
    · simp [Value.cells] at hcs
      obtain ⟨rfl, rfl, rfl⟩ := hcs
      exact ⟨[], .inl ⟨rfl, rfl, rfl, rfl⟩⟩
    · simp [Value.cells] at hcs
      obtain ⟨rfl, rfl, rfl⟩ := hcs
      exact ⟨zs, .inr ⟨_, rfl, hl, hm, by simpa using hz, hcell, hwz⟩⟩
  obtain ⟨a1, rfl, rfl, rfl, w1⟩ := open_int Try.underlying3 (hval 1 3 v1 rfl rfl) h1
  obtain ⟨a2, rfl, rfl, rfl, w2⟩ := open_int Try.underlying3 (hval 2 3 v2 rfl rfl) h2
  obtain ⟨a3, rfl, rfl, rfl, w3⟩ := open_int Try.underlying3 (hval 3 3 v3 rfl rfl) h3
  obtain ⟨a4, rfl, rfl, rfl, w4⟩ := open_int Try.underlying46 (hval 4 46 v4 rfl rfl) h4
  obtain ⟨a5, rfl, rfl, rfl⟩ := open_bool Try.underlying4 (hval 5 4 v5 rfl rfl) h5
  clear hA0 hval0
  refine (walk a0 len0 cap0 z0 a1 a2 a3 a4 a5 W w0 w1 w2 w3 w4).mono fun e W' ⟨he, bel⟩ => ?_
  subst he
  exact ⟨_, rfl, _, _, _, [], _, [], hW', trodAll_mk1 (shut_bool Try.underlying4 _), (trodAll_cons_mk (Below.trod laidOut (by kernel_rfl) (of_decide_eq_true (by kernel_rfl)) k0 bel lt0) (trodAll_cons_mk (shut_int Try.underlying3 w1) (trodAll_cons_mk (shut_int Try.underlying3 w2) (trodAll_cons_mk (shut_int Try.underlying3 w3) (trodAll_cons_mk (shut_int Try.underlying46 w4) (trodAll_cons_mk (shut_bool Try.underlying4 a5) trodAll_mk0)))))), rfl, bel.frame _, fun h => by cases h⟩

theorem over : Rows.recordSpoiltRow.holds Try.pinned (OpenSpec.ofChange Rows.recordSpoiltSpec) :=
  OpenClaim.holds_of_wide 6 Try.f6 rfl rfl rfl rfl rfl rfl rfl ⟨rfl, rfl, rfl, rfl, rfl⟩ rfl rfl rfl rfl rfl (by kernel_rfl) Try.func6 (by kernel_rfl)
    (of_decide_eq_true (by kernel_rfl)) (by unfold Func.isWrapper; first | (rw [if_pos (by decide +kernel)]; kernel_rfl) | (rw [if_neg (by decide +kernel)]; exact ⟨rfl, rfl⟩))
    (fun os started H enc _ => lifted os started H enc)

/-- The statement. -/
theorem proved : Rows.RecordSpoiltSaid := over
#print axioms proved
end Go.Proofs.Ytepooidgmaokeaa.recordSpoilt

