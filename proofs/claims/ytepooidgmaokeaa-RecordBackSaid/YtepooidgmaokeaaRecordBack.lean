/-
  The given statement RecordBackSaid is proved: whatever the arguments are, the law returns true and leaves its input as it was. No conditions.
-/
import Derived.Test.YtepooidgmaokeaaRecordAwake
import Derived.Test.YtepooidgmaokeaaRecordMadeW
import Derived.Test.YtepooidgmaokeaaAppendZeros
import Derived.Test.YtepooidgmaokeaaOpen
import Derived.WalkKit
import Derived.ProofKit
import Derived.OpenShut
import Derived.ShutString
import Derived.ChangeOld
import Derived.Below
namespace Go.Proofs.Ytepooidgmaokeaa.recordBack
open Go.ChangeShapes Go.WideShapes Go.ChangeAt Go.RowKit
open Go.ChangeMaps (open_string shut_string)
open Go.Proofs.Ytepooidgmaokeaa.mem Go.Proofs.Ytepooidgmaokeaa.base Go.Proofs.Ytepooidgmaokeaa.row Go.Proofs.Ytepooidgmaokeaa.record
set_option linter.unusedVariables false

theorem own : ownKnob Try.prog.godebug = none := by kernel_rfl
theorem laidOut : laidOutB Try.prog = true := by kernel_rfl

theorem walk_out (A : Option Addr) (n c : Nat) (a1 a2 a3 : Int) (w : World) (h : n < 1 ∨ 1 ≤ n ∧ 6 < n) :
    Calls Try.prog 5 #[.slice A n c, .int .i64 a1, .int .i64 a2, .int .i64 a3] w fun e w' => e = .returned (.bool true) ∧ Below w.heap.size w w' := by
  rcases h with h | ⟨h1, h2⟩
  · have h' : (n : Int) < 1 := by omega
    clear h
    go_enter Try.func5, Try.ntmps5
    go_wp2_with fail
    refine (awake_any _).mono ?_
    rintro e W2 ⟨rfl, hk⟩
    have HK2 := hide hk
    clear hk
    go_wp2
    go_ret
    exact ⟨rfl, HK2.out.below (by simp)⟩
  · have h' : ¬ (n : Int) < 1 := by omega
    have h'' : (6 : Int) < n := by omega
    clear h1 h2
    go_enter Try.func5, Try.ntmps5
    go_wp2_with fail
    refine (awake_any _).mono ?_
    rintro e W2 ⟨rfl, hk⟩
    have HK2 := hide hk
    clear hk
    go_wp2
    go_ret
    exact ⟨rfl, HK2.out.below (by simp)⟩

theorem own_lit' (w : World) (q : Nat) (h : w.heap.size = q) : (w.alloc (.cells #[] 5)).ownsRow q 5 1 (.slice (some ⟨q, 0, none⟩) 0 0) 0 [] := by
  subst h
  exact own_lit w
theorem zeros_B (bs : List UInt8) (k : Nat) : ([] ++ bs.map B) ++ List.replicate k (Value.int .u8 0) = (bs ++ List.replicate k 0).map B := by
  rw [List.map_append, List.map_replicate, List.nil_append]
  rfl

set_option maxRecDepth 100000 in
set_option maxHeartbeats 2000000 in
theorem walk_in (A : Option Addr) (n c : Nat) (lsn prev fill : Int) (ks : List Int) (w : World) (hv : Vals w [] A (ks.map I)) (hl : ks.length = n) (h1 : 1 ≤ n) (h6 : n ≤ 6) :
    Calls Try.prog 5 #[.slice A n c, .int .i64 lsn, .int .i64 prev, .int .i64 fill] w fun e w' => e = .returned (.bool true) ∧ Below w.heap.size w w' := by
  have hok : (made ks lsn prev fill).ok := made_ok ks lsn prev fill (by rw [hl]; exact h1) (by rw [hl]; exact h6)
  have hmade := fun w hv => made_any A n c ks lsn prev fill w hv hl h6
  obtain ⟨R, hR⟩ : ∃ R, made ks lsn prev fill = R := ⟨_, rfl⟩
  rw [hR] at hok
  simp only [hR] at hmade
  have HV := hide hv
  have HMD := hide hmade
  have HOK := hide hok
  obtain ⟨k, hk0⟩ : ∃ k, R.bks.length = k := ⟨_, rfl⟩
  have hk6 : k ≤ 6 := by rw [← hk0]; exact hok.few
  have hm6 : R.its.length ≤ 6 := hok.2.2.2.1.2
  have hbl := R.bytes_len hok
  rw [hk0] at hbl
  obtain ⟨N, hN⟩ : ∃ N, 64 * (1 + k) = N := ⟨_, rfl⟩
  rw [hN] at hbl
  have HBL := hide hbl
  have HDEC := hide (decode_bytes hok)
  have hodd := decode_odd hok
  rw [hbl] at hodd
  have HODD := hide hodd
  have HMORE := hide (decode_more hok (List.replicate 64 0) (by simp))
  have HLO : Hid (lenOf R = 1 + k) := hide (by rw [lenOf_ok hok, hk0])
  have HSZ : Hid (record.sizeOf (R.bytes.take 64) = 1 + k) := hide (by rw [size_bytes hok, hk0])
  have HKK := hide hk0
  have HM6 := hide hm6
  have hN1 : (64 : Int) * ((1 + k : Nat) : Int) = N := by omega
  have hN2 : ((1 + k : Nat) : Int) * 64 = N := by omega
  have hN3 : 64 ≤ N := by omega
  have hN4 : N ≤ 448 := by omega
  have HNN := hide hN
  have h1' : ¬ (n : Int) < 1 := by omega
  have h6' : ¬ (6 : Int) < n := by omega
  have HMAY := hide (R.may_iff.2 hok)
  clear hv hmade hok hR hk0 hbl hodd hN h1 h6 hm6 hl
  go_enter Try.func5, Try.ntmps5
  go_wp2_with fail
  refine (HMD.out _ HV.out).mono ?_
  rintro e w1 ⟨L1, m1, lc1, P1, k1, pc1, rfl, hrc, hk⟩
  have hb2 := Blk.new w1 25 #[.int .i64 R.m, .int .i64 R.l, .int .i64 R.p, .slice L1 m1 lc1, .slice P1 k1 pc1]
  have hk2 := (Kept.refl [] w1).alloc (.cells #[.int .i64 R.m, .int .i64 R.l, .int .i64 R.p, .slice L1 m1 lc1, .slice P1 k1 pc1] 25)
  obtain ⟨g, hg⟩ : ∃ g, w1.heap.size = g := ⟨_, rfl⟩
  rw [hg] at hb2
  obtain rfl : k1 = k := by rw [← hrc.hk]; exact HKK.out
  have hm1 : m1 ≤ 6 := by rw [← hrc.hn]; exact HM6.out
  have HR2 := hide (hrc.kept hk2)
  have HB2 := hide hb2
  have HK2 := hide (hk.trans hk2 (by simp))
  obtain ⟨c0, c1, c2, c3, c4⟩ := cell5 hb2
  clear hrc hk hb2 hk2 HMD
  go_wp2_with fail
  refine (encode_yes R L1 P1 m1 lc1 k1 pc1 _ HR2.out HOK.out).mono ?_
  rintro e w3 ⟨P3, p3, rfl, hnb, hk⟩
  rw [HNN.out]
  obtain ⟨b3, rfl, _, harr⟩ := hnb.pos (by rw [HBL.out]; omega)
  have hle := harr.len
  rw [HBL.out] at hle
  have HA3 := hide harr
  have HR3 := hide (HR2.out.kept hk)
  have HB3 := hide (hk.blk HB2.out (by simp))
  have HK3 := hide (HK2.out.trans hk (by simp))
  obtain ⟨y, hy⟩ : ∃ y : Nat, R.sum = y := ⟨_, rfl⟩
  have HY := hide hy
  rw [hy]
  clear hk hnb harr hy HR2 HB2 HK2 c0 c1 c2 c3 c4
  obtain ⟨c0, c1, c2, c3, c4⟩ := cell5 HB3.out
  go_wp2_with fail
  refine (len_any R L1 P1 m1 lc1 k1 pc1 _ HR3.out).mono ?_
  rintro e w4 ⟨rfl, hk⟩
  rw [HLO.out]
  have HA4 := hide (HA3.out.kept hk (by simp))
  have HR4 := hide (HR3.out.kept hk)
  have HB4 := hide (hk.blk HB3.out (by simp))
  have HK4 := hide (HK3.out.trans hk (by simp))
  have hz1 : ((N : Int) != (64 : Int) * (1 + (k1 : Int))) = false := by rw [bne_eq_false_iff_eq]; omega
  have hz2 : ¬ ((N : Int) < 64) := by omega
  clear hk HR3 HB3 HK3 HA3 c0 c1 c2 c3 c4
  go_wp2_with fail
  refine (decode_any (some ⟨b3, 0, none⟩) N p3 R.bytes _ (HA4.out.vals (S := []) (by simp)) HBL.out (by simp) (by omega)).mono ?_
  rintro e w5 ⟨L5, m5, lc5, P5, k5, pc5, rfl, hrc, hk⟩
  rw [HDEC.out] at hrc ⊢
  rw [HY.out]
  dsimp only at hrc ⊢
  have hb6 := Blk.new w5 25 #[.int .i64 R.m, .int .i64 R.l, .int .i64 R.p, .slice L5 m5 lc5, .slice P5 k5 pc5]
  have hk6' := (Kept.refl [] w5).alloc (.cells #[.int .i64 R.m, .int .i64 R.l, .int .i64 R.p, .slice L5 m5 lc5, .slice P5 k5 pc5] 25)
  obtain ⟨s, hs⟩ : ∃ s, w5.heap.size = s := ⟨_, rfl⟩
  rw [hs] at hb6
  have hm5 : m5 ≤ 6 := by rw [← hrc.hn]; exact HM6.out
  have hk5 : k5 ≤ 6 := by rw [← hrc.hk, HKK.out]; exact hk6
  have HX6 := hide (hrc.kept hk6')
  have HS6 := hide hb6
  have HA6 := hide ((HA4.out.kept hk (by simp)).kept hk6' (by simp))
  have HR6 := hide ((HR4.out.kept hk).kept hk6')
  have HB6 := hide (hk6'.blk (hk.blk HB4.out (by simp)) (by simp))
  have HK6 := hide ((HK4.out.trans hk (by simp)).trans hk6' (by simp))
  have hN5 : IntKind.i64.wrap ((N : Int) - 1) = ((N - 1 : Nat) : Int) := by rw [IntWalk.i64_in _ (by omega)]; omega
  have HL1 : Hid ((R.bytes.take (N - 1)).length = N - 1) := hide (by rw [List.length_take, HBL.out]; omega)
  have HV1 : Hid (Vals (w5.alloc (.cells #[.int .i64 R.m, .int .i64 R.l, .int .i64 R.p, .slice L5 m5 lc5, .slice P5 k5 pc5] 25)) [] (some ⟨b3, 0, none⟩) ((R.bytes.take (N - 1)).map B)) := hide (by rw [List.map_take]; exact (HA6.out.vals (S := []) (by simp)).first (N - 1))
  clear hrc hk hb6 hk6' HR4 HB4 HK4 HA4
  obtain ⟨M, hM⟩ : ∃ M, N - 1 = M := ⟨_, rfl⟩
  have hMN : (N : Int) - 1 = M := by omega
  rw [hM] at HL1 HV1 HODD hN5
  have hM2 : M ≤ 448 := by omega
  have hM3 : (M : Int) ≤ p3 := by omega
  go_wp2_with fail
  refine (decode_any (some ⟨b3, 0, none⟩) M p3 (R.bytes.take M) _ HV1.out HL1.out (by simp) (by omega)).mono ?_
  rintro e w7 ⟨L7, m7, lc7, P7, k7, pc7, rfl, hrc, hk⟩
  rw [HODD.out]
  dsimp only
  have hk8 := (Kept.refl [] w7).alloc (.cells #[.int .i64 Rc.zero.m, .int .i64 Rc.zero.l, .int .i64 Rc.zero.p, .slice L7 m7 lc7, .slice P7 k7 pc7] 25)
  have HX8 := hide ((HX6.out.kept hk).kept hk8)
  have HS8 := hide (hk8.blk (hk.blk HS6.out (by simp)) (by simp))
  have HA8 := hide ((HA6.out.kept hk (by simp)).kept hk8 (by simp))
  have HR8 := hide ((HR6.out.kept hk).kept hk8)
  have HB8 := hide (hk8.blk (hk.blk HB6.out (by simp)) (by simp))
  have HK8 := hide ((HK6.out.trans hk (by simp)).trans hk8 (by simp))
  have HVB := hide (HA8.out.vals (S := []) (by simp))
  clear hrc hk hk8 HX6 HS6 HA6 HR6 HB6 HK6 HV1 HL1
  go_wp2_with (first
    | (at_builtin; refine wpList_append_vals rfl (.tmp 74) (.tmp 75) 28 rfl (w7.heap.size + 1) 5 (.int .u8 0) 1 1 Try.underlying28 info8 rfl (by omega) (.slice (some ⟨w7.heap.size + 1, 0, none⟩) 0 0) 0 [] rfl (own_lit' _ _ (by simp)) [] (some ⟨b3, 0, none⟩) N p3 (R.bytes.map B) rfl (by rw [List.length_map, HBL.out, Nat.mul_one]) (HVB.out.kept ((Kept.refl [] _).alloc _) (by simp)) (oneCell_B _) (by simp only [maxLen]; omega) (by omega) (by simp) ?_; intro v9 w9 hown9 hk9 hat9)
    | (at_builtin; refine wpList_append_zeros rfl (.tmp 76) (.const (.int .i64 64)) 28 3 rfl (w7.heap.size + 1) 5 .i64 Try.underlying28 Try.underlying3 info8 v9 (0 + N) ([] ++ R.bytes.map B) rfl hown9 64 rfl (by omega) (by omega) (by have := hk9.size; simp at this; omega) ?_; intro v10 w10 hown10 hk10; rw [zeros_B] at hown10; obtain ⟨A10, c10, rfl, hc10, hA10, hv10, hg10⟩ := base.own_slice hown10))
  obtain ⟨w8, hw8⟩ : ∃ w8, w7.alloc (.cells #[.int .i64 Rc.zero.m, .int .i64 Rc.zero.l, .int .i64 Rc.zero.p, .slice L7 m7 lc7, .slice P7 k7 pc7] 25) = w8 := ⟨_, rfl⟩
  have hz8 : w8.heap.size = w7.heap.size + 1 := by rw [← hw8]; simp
  rw [hw8] at HX8 HS8 HA8 HR8 HB8 HK8 HVB hk9
  have hk810 : Kept [] w8 w10 := (((Kept.refl [] w8).alloc (.cells #[] 5)).trans hk9 (fun i hi => .inr (by simp [Value.ownBlock] at hi; omega))).trans hk10 (fun i hi => .inr (by have := (own_blk hown9 i hi).1; omega))
  have HX10 := hide (HX8.out.kept hk810)
  have HS10 := hide (hk810.blk HS8.out (by simp))
  have HA10 := hide (HA8.out.kept hk810 (by simp))
  have HR10 := hide (HR8.out.kept hk810)
  have HB10 := hide (hk810.blk HB8.out (by simp))
  have HK10 := hide (HK8.out.trans hk810 (by simp))
  have HV10 := hide (hv10 [] (by simp))
  have HN10 := hide hA10
  have HLT : Hid ((R.bytes ++ List.replicate 64 0).length = 0 + N + 64) := hide (by rw [List.length_append, HBL.out, List.length_replicate]; omega)
  clear hw8 hk810 hk9 hk10 hown9 hown10 hat9 hv10 hg10 hA10 HX8 HS8 HA8 HR8 HB8 HK8 HVB hz8
  obtain ⟨M2, hM2⟩ : ∃ M2, 0 + N + 64 = M2 := ⟨_, rfl⟩
  have hM3' : M2 ≤ 1000 := by omega
  have HM2 := hide hM2
  rw [hM2] at HLT
  try rw [show 0 + N + 64 = M2 from hM2]
  try rw [show N + 64 = M2 by omega]
  clear hM2
  refine (decode_any A10 M2 c10 (R.bytes ++ List.replicate 64 0) _ HV10.out HLT.out HN10.out (by omega)).mono ?_
  rintro e w11 ⟨L11, m11, lc11, P11, k11, pc11, rfl, hrc, hk⟩
  rw [HMORE.out]
  dsimp only
  have hk12 := (Kept.refl [] w11).alloc (.cells #[.int .i64 Rc.zero.m, .int .i64 Rc.zero.l, .int .i64 Rc.zero.p, .slice L11 m11 lc11, .slice P11 k11 pc11] 25)
  have HX12 := hide ((HX10.out.kept hk).kept hk12)
  have HS12 := hide (hk12.blk (hk.blk HS10.out (by simp)) (by simp))
  have HA12 := hide ((HA10.out.kept hk (by simp)).kept hk12 (by simp))
  have HR12 := hide ((HR10.out.kept hk).kept hk12)
  have HB12 := hide (hk12.blk (hk.blk HB10.out (by simp)) (by simp))
  have HK12 := hide ((HK10.out.trans hk (by simp)).trans hk12 (by simp))
  obtain ⟨c0, c1, c2, c3, c4⟩ := cell5 HB12.out
  clear hrc hk hk12 HX10 HS10 HA10 HR10 HB10 HK10 HV10
  go_wp2_with fail
  refine (may_any R L1 P1 m1 lc1 k1 pc1 _ HR12.out).mono ?_
  rintro e w13 ⟨rfl, hk⟩
  rw [HMAY.out]
  have HX13 := hide (HX12.out.kept hk)
  have HS13 := hide (hk.blk HS12.out (by simp))
  have HA13 := hide (HA12.out.kept hk (by simp))
  have HR13 := hide (HR12.out.kept hk)
  have HB13 := hide (hk.blk HB12.out (by simp))
  have HK13 := hide (HK12.out.trans hk (by simp))
  have h00 : (y == y) = true := by simp
  clear hk c0 c1 c2 c3 c4 HX12 HS12 HA12 HR12 HB12 HK12
  obtain ⟨c0, c1, c2, c3, c4⟩ := cell5 HB13.out
  obtain ⟨d0, d1, d2, d3, d4⟩ := cell5 HS13.out
  go_wp2_with fail
  refine (record_any R R L5 P5 L1 P1 m5 lc5 k5 pc5 m1 lc1 k1 pc1 _ HX13.out HR13.out (by omega) (by omega)).mono ?_
  rintro e w14 ⟨rfl, hk⟩
  rw [show decide (R = R) = true by simp]
  have HA14 := hide (HA13.out.kept hk (by simp))
  have HK14 := hide (HK13.out.trans hk (by simp))
  have hp64 : (64 : Int) ≤ p3 := by omega
  clear hk c0 c1 c2 c3 c4 d0 d1 d2 d3 d4 HX13 HS13 HA13 HR13 HB13 HK13
  go_wp2_with fail
  refine (size_any (some ⟨b3, 0, none⟩) 64 p3 (R.bytes.take 64) _ (by rw [List.map_take]; exact (HA14.out.vals (S := []) (by simp)).first 64) (by rw [List.length_take, HBL.out]; omega) (by omega) (by simp)).mono ?_
  rintro e w15 ⟨rfl, hk⟩
  rw [HSZ.out]
  have HK15 := hide (HK14.out.trans hk (by simp))
  have hz3 : ((1 + (k1 : Int)) * 64 == (N : Int)) = true := by rw [beq_iff_eq]; omega
  clear hk HA14 HK14
  go_wp2_with fail
  refine (awake_any _).mono ?_
  rintro e w16 ⟨rfl, hk⟩
  have HK16 := hide (HK15.out.trans hk (by simp))
  clear hk
  go_wp2
  go_ret
  exact ⟨rfl, HK16.out.below (by simp)⟩

theorem walk (a0 : Option Addr) (len0 cap0 : Nat) (z0 : List Int) (a1 : Int) (a2 : Int) (a3 : Int) (w : World) (w0 : IsRow .i64 w a0 len0 cap0 z0) (w1 : (Lit.int .i64 a1).wf = true) (w2 : (Lit.int .i64 a2).wf = true) (w3 : (Lit.int .i64 a3).wf = true) :
    Calls Try.prog 5 #[.slice a0 len0 cap0, .int .i64 a1, .int .i64 a2, .int .i64 a3] w fun e w' => e = .returned (.bool true) ∧ Below w.heap.size w w' := by
  obtain ⟨ks, hl, hnc, hv, hA⟩ := w0.ints
  by_cases h1 : 1 ≤ len0
  · by_cases h6 : len0 ≤ 6
    · exact walk_in a0 len0 cap0 a1 a2 a3 ks w hv hl h1 h6
    · exact walk_out a0 len0 cap0 a1 a2 a3 w (.inr ⟨h1, by omega⟩)
  · exact walk_out a0 len0 cap0 a1 a2 a3 w (.inl (by omega))

/-! ### the row's step, as the guide's skeleton has it -/
set_option maxRecDepth 100000 in
theorem lifted (os : Os) (started : os.Started) (H : Type) (enc : TypeId × Value → H) :
    ReturnsInHanded {} Try.checked os 5 .any (Rows.recordBackSpec.pre6 enc Try.prog Try.f5 Rows.recordBackRow.domain false) (Rows.recordBackSpec.post enc Try.prog Try.f5 false true false false) := by
  refine returnsInHanded_of_change (C := Try.checked) own started (by kernel_rfl) Try.func5
    (ChangeSpec.witness6 (enc := enc) (C := Try.checked) false ⟨#[], #[.slice none 0 0, .int .i64 0, .int .i64 0, .int .i64 0], []⟩ 8 (by kernel_rfl) (by kernel_rfl) (by kernel_rfl) (by kernel_rfl)) ?_
  intro W base args ds gs before hval0 hW hcnd _
  have hval : ∀ (j : Nat) t v, Try.f5.params[j]? = some t → args[j]? = some v → Value.okWide Try.prog W .any base t v := hval0
  have hW' := hW
  obtain ⟨p, q, hA0, hV, rfl, hfz, hnd⟩ := hW
  have hA : DataW.TrodAll enc Try.prog W 0 (fun _ => true) true Try.f5.params.toList args.toList ds p := hA0
  rw [Try.params5] at hA hval
  obtain ⟨v0, vs0, d0, ds0, p0, q0, hargs, rfl, rfl, h0, r0⟩ := trodAll_cons hA
  obtain ⟨v1, vs1, d1, ds1, p1, q1, rfl, rfl, rfl, h1, r1⟩ := trodAll_cons r0
  obtain ⟨v2, vs2, d2, ds2, p2, q2, rfl, rfl, rfl, h2, r2⟩ := trodAll_cons r1
  obtain ⟨v3, vs3, d3, ds3, p3, q3, rfl, rfl, rfl, h3, r3⟩ := trodAll_cons r2
  obtain ⟨rfl, rfl, rfl⟩ := trodAll_nil r3
  obtain rfl : args = #[v0, v1, v2, v3] := by cases args; simp_all
  obtain ⟨rfl, rfl⟩ := trodVars_none hV
  obtain ⟨a0, len0, cap0, rfl⟩ := okWide_slice Try.underlying43 (hval 0 43 v0 rfl rfl)
  have k0 := h0
  have lt0 : ∀ x ∈ p0, x.block < W.heap.size := by obtain ⟨m, hm⟩ := k0; exact DataW.trod_lt m _ _ _ hm
  obtain ⟨z0, w0⟩ : ∃ zs, IsRow .i64 W a0 len0 cap0 zs := by
    obtain ⟨fuel, hf⟩ := h0
    rcases open_ints Try.underlying43 Try.underlying3 (by kernel_rfl) hf with ⟨hcs, _⟩ | ⟨x, l, c, zs, hcs, _, hl, hm, hz, _, hcell, hwz⟩
    · simp [Value.cells] at hcs
      obtain ⟨rfl, rfl, rfl⟩ := hcs
      exact ⟨[], .inl ⟨rfl, rfl, rfl, rfl⟩⟩
    · simp [Value.cells] at hcs
      obtain ⟨rfl, rfl, rfl⟩ := hcs
      exact ⟨zs, .inr ⟨_, rfl, hl, hm, by simpa using hz, hcell, hwz⟩⟩
  obtain ⟨a1, rfl, rfl, rfl, w1⟩ := open_int Try.underlying3 (hval 1 3 v1 rfl rfl) h1
  obtain ⟨a2, rfl, rfl, rfl, w2⟩ := open_int Try.underlying3 (hval 2 3 v2 rfl rfl) h2
  obtain ⟨a3, rfl, rfl, rfl, w3⟩ := open_int Try.underlying3 (hval 3 3 v3 rfl rfl) h3
  clear hA0 hval0
  refine (walk a0 len0 cap0 z0 a1 a2 a3 W w0 w1 w2 w3).mono fun e W' ⟨he, bel⟩ => ?_
  subst he
  exact ⟨_, rfl, _, _, _, [], _, [], hW', trodAll_mk1 (shut_bool Try.underlying4 _), (trodAll_cons_mk (Below.trod laidOut (by kernel_rfl) (of_decide_eq_true (by kernel_rfl)) k0 bel lt0) (trodAll_cons_mk (shut_int Try.underlying3 w1) (trodAll_cons_mk (shut_int Try.underlying3 w2) (trodAll_cons_mk (shut_int Try.underlying3 w3) trodAll_mk0)))), rfl, bel.frame _, fun h => by cases h⟩

theorem over : Rows.recordBackRow.holds Try.pinned (OpenSpec.ofChange Rows.recordBackSpec) :=
  OpenClaim.holds_of_wide 5 Try.f5 rfl rfl rfl rfl rfl rfl rfl ⟨rfl, rfl, rfl, rfl, rfl⟩ rfl rfl rfl rfl rfl (by kernel_rfl) Try.func5 (by kernel_rfl)
    (of_decide_eq_true (by kernel_rfl)) (by unfold Func.isWrapper; first | (rw [if_pos (by decide +kernel)]; kernel_rfl) | (rw [if_neg (by decide +kernel)]; exact ⟨rfl, rfl⟩))
    (fun os started H enc _ => lifted os started H enc)

/-- The statement. -/
theorem proved : Rows.RecordBackSaid := over
#print axioms proved
end Go.Proofs.Ytepooidgmaokeaa.recordBack

