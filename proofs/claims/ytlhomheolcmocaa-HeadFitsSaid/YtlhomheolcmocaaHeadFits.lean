/-
  The given statement HeadFitsSaid is proved: whatever the arguments are, the law returns true and leaves its input as it was. No conditions.
-/
import Derived.Test.YtlhomheolcmocaaHeadMade
import Derived.Test.YtlhomheolcmocaaShapes
import Derived.WalkKit
import Derived.ProofKit
import Derived.OpenShut
import Derived.ShutString
import Derived.ChangeOld
import Derived.Below
namespace Go.Proofs.Ytlhomheolcmocaa.headFits
open Go.ChangeShapes Go.WideShapes Go.ChangeAt Go.RowKit
open Go.ChangeMaps (open_string shut_string)
open Go.Proofs.Ytlhomheolcmocaa.mem Go.Proofs.Ytlhomheolcmocaa.base Go.Proofs.Ytlhomheolcmocaa.hd Go.Proofs.Ytlhomheolcmocaa.crc Go.Proofs.Ytlhomheolcmocaa.row
set_option linter.unusedVariables false

theorem own : ownKnob Try.prog.godebug = none := by kernel_rfl
theorem laidOut : laidOutB Try.prog = true := by kernel_rfl

theorem pos_at {w : World} {g : Nat} {t : TypeId} {s o l v m : Int} (h : Blk w g t #[.int .i64 s, .int .i64 o, .int .i64 l, .int .i64 v, .int .i64 m]) : w.cell? ⟨g, 0, none⟩ = some (.int .i64 s) ∧ w.cell? ⟨g, 1, none⟩ = some (.int .i64 o) ∧ w.cell? ⟨g, 2, none⟩ = some (.int .i64 l) ∧ w.cell? ⟨g, 3, none⟩ = some (.int .i64 v) ∧ w.cell? ⟨g, 4, none⟩ = some (.int .i64 m) :=
  ⟨h.cell 0, h.cell 1, h.cell 2, h.cell 3, h.cell 4⟩
theorem and3 (n : Int) : bits .and .i64 n 3 = n % 4 := by
  have h1 : (BitVec.ofInt 64 3).toNat = 2 ^ 2 - 1 := by decide
  have key : (BitVec.ofInt 64 n &&& BitVec.ofInt 64 3).toNat = (n % ((2 ^ 64 : Nat) : Int)).toNat % 2 ^ 2 := by
    rw [BitVec.toNat_and, BitVec.toNat_ofInt, h1, Nat.and_two_pow_sub_one_eq_mod]
  show IntKind.i64.wrap ((BitVec.ofInt 64 n &&& BitVec.ofInt 64 3).toNat : Nat) = n % 4
  rw [key, IntKind.wrap_i64]
  omega

set_option maxRecDepth 100000 in
set_option maxHeartbeats 1000000 in
theorem walk (a0_0 a0_1 a0_2 a0_3 : Int) (a1 : Int) (a2 : Int) (a3 : Int) (w : World) (w0_0 : (Lit.int .i64 a0_0).wf = true) (w0_1 : (Lit.int .i64 a0_1).wf = true) (w0_2 : (Lit.int .i64 a0_2).wf = true) (w0_3 : (Lit.int .i64 a0_3).wf = true) (w1 : (Lit.int .i64 a1).wf = true) (w2 : (Lit.int .i64 a2).wf = true) (w3 : (Lit.int .i64 a3).wf = true) :
    Calls Try.prog 5 #[.agg #[.int .i64 a0_0, .int .i64 a0_1, .int .i64 a0_2, .int .i64 a0_3], .int .i64 a1, .int .i64 a2, .int .i64 a3] w fun e w' => e = .returned (.bool true) ∧ Below w.heap.size w w' := by
  clear w0_0 w0_1 w0_2 w0_3 w1 w2 w3
  obtain ⟨x, hx⟩ : ∃ x, a2 % 1000 = x := ⟨_, rfl⟩
  have hx0 : 0 ≤ x ∧ x < 1000 := by omega
  have HX := hide hx
  clear hx
  obtain ⟨W1, hw1⟩ : ∃ W1, w.alloc (.cells #[.int .i64 a0_0, .int .i64 a0_1, .int .i64 a0_2, .int .i64 a0_3] 41) = W1 := ⟨_, rfl⟩
  have hk1 : Kept [] w W1 := by rw [← hw1]; exact (Kept.refl [] w).alloc _
  have hb1 : Blk W1 w.heap.size 41 #[.int .i64 a0_0, .int .i64 a0_1, .int .i64 a0_2, .int .i64 a0_3] := by rw [← hw1]; exact Blk.new w _ _
  have c0 : W1.cell? ⟨w.heap.size, 0, none⟩ = some (.int .i64 a0_0) := hb1.cell 0
  have c1 : W1.cell? ⟨w.heap.size, 1, none⟩ = some (.int .i64 a0_1) := hb1.cell 1
  have c2 : W1.cell? ⟨w.heap.size, 2, none⟩ = some (.int .i64 a0_2) := hb1.cell 2
  have c3 : W1.cell? ⟨w.heap.size, 3, none⟩ = some (.int .i64 a0_3) := hb1.cell 3
  have HK1 := hide hk1
  clear hk1 hb1
  go_enter Try.func5, Try.ntmps5
  go_wp2_with fail
  refine (made_any a0_0 a0_1 a0_2 a0_3 _).mono ?_
  rintro e W2 ⟨H, rfl, hH, hk⟩
  have HK2 := hide (HK1.out.trans hk (by simp))
  have HH := hide hH
  obtain ⟨hg, hm, hl, hv⟩ := (H.may_iff).1 hH
  clear hk c0 c1 c2 c3 hw1 HK1 hH
  obtain ⟨yy, hyy⟩ : ∃ y, a2 % H.m = y := ⟨_, rfl⟩
  have hy0 : 0 ≤ yy ∧ yy < H.m := by
    have h1 := Int.emod_nonneg a2 (show H.m ≠ 0 by omega)
    have h2 := Int.emod_lt_of_pos a2 (show 0 < H.m by omega)
    omega
  have HY := hide hyy
  clear hyy
  unfold Hd.val
  obtain ⟨W3, hw3⟩ : ∃ W3, W2.alloc (.cells H.cells 23) = W3 := ⟨_, rfl⟩
  have hk3 : Kept [] W2 W3 := by rw [← hw3]; exact (Kept.refl [] W2).alloc _
  have hb3 : Blk W3 W2.heap.size 23 H.cells := by rw [← hw3]; exact Blk.new W2 _ _
  obtain ⟨g, hg'⟩ : ∃ g, W2.heap.size = g := ⟨_, rfl⟩
  rw [hg'] at hb3
  obtain ⟨d0, d1, d2, d3⟩ := Hd.cell_at hb3
  have HK3 := hide (HK2.out.trans hk3 (by simp))
  have HB3 := hide hb3
  clear hk3 hb3
  unfold Hd.cells at hw3
  go_wp2_with fail
  refine (encode_yes H _ HH.out).mono ?_
  rintro e W4 ⟨A, c, rfl, hn, hk⟩
  obtain ⟨b, rfl, _, harr⟩ := hn.pos (by rw [H.bytes_len]; omega)
  have HA4 := hide harr
  have hbl := harr.lt
  have HK4 := hide (HK3.out.trans hk (by simp))
  have HB4 := hide (hk.blk HB3.out (by simp))
  clear hk hn harr d0 d1 d2 d3 hw3 hg' HK3 HB3
  obtain ⟨d0, d1, d2, d3⟩ := Hd.cell_at HB4.out
  obtain ⟨W5, hw5⟩ : ∃ W5, W4.alloc (.cells #[.int .i64 H.g, .int .i64 a3, .int .i64 H.l, .int .i64 H.v, .int .i64 H.m] 26) = W5 := ⟨_, rfl⟩
  have hk5 : Kept [] W4 W5 := by rw [← hw5]; exact (Kept.refl [] W4).alloc _
  have hp5 : Blk W5 W4.heap.size 26 #[.int .i64 H.g, .int .i64 a3, .int .i64 H.l, .int .i64 H.v, .int .i64 H.m] := by rw [← hw5]; exact Blk.new W4 _ _
  obtain ⟨p, hp⟩ : ∃ p, W4.heap.size = p := ⟨_, rfl⟩
  rw [hp] at hp5
  obtain ⟨W6, hw6⟩ : ∃ W6, W5.alloc (.cells #[.int .i64 H.g, .int .i64 a3, .int .i64 H.l, .int .i64 H.v, .int .i64 H.m] 26) = W6 := ⟨_, rfl⟩
  have hk6 : Kept [] W5 W6 := by rw [← hw6]; exact (Kept.refl [] W5).alloc _
  have hq6 : Blk W6 W5.heap.size 26 #[.int .i64 H.g, .int .i64 a3, .int .i64 H.l, .int .i64 H.v, .int .i64 H.m] := by rw [← hw6]; exact Blk.new W5 _ _
  obtain ⟨q, hq⟩ : ∃ q, W5.heap.size = q := ⟨_, rfl⟩
  rw [hq] at hq6
  obtain ⟨p0, p1, p2, p3, p4⟩ := pos_at hp5
  have hpl := hp5.lt
  have hgl := HB4.out.lt
  have hgp : g ≠ p := by omega
  have hpq : p ≠ q := by omega
  have hgq : g ≠ q := by omega
  have HQW : Hid (w.heap.size ≤ q) := hide (by have := HK4.out.size; have := hk5.size; omega)
  have HK6 := hide ((HK4.out.trans hk5 (by simp)).trans hk6 (by simp))
  have HP6 := hide (hk6.blk hp5 (by simp))
  have HQ6 := hide hq6
  have HB6 := hide (hk6.blk (hk5.blk HB4.out (by simp)) (by simp))
  have HA6 := hide ((HA4.out.kept hk5 (by simp)).kept hk6 (by simp))
  have hbq : b ≠ q := by omega
  have hql := hq6.lt
  clear hk5 hk6 hp5 hq6 HK4 HB4 HA4
  go_wp2_with fail
  refine (round_any a2 1000 _ (by omega) (by omega)).mono ?_
  rintro e W7 ⟨rfl, rfl⟩
  rw [HX.out]
  clear hw5 hw6 d0 d1 d2 d3 p0 p1 p2 p3 p4 hp hq
  obtain ⟨p0, p1, p2, p3, p4⟩ := pos_at HP6.out
  obtain ⟨q0, q1, q2, q3, q4⟩ := pos_at HQ6.out
  have f0 := HQ6.out.frozen 0
  have f2 := HQ6.out.frozen 2
  have f3 := HQ6.out.frozen 3
  have f4 := HQ6.out.frozen 4
  have hj : bits .and .i64 a1 3 = 0 ∨ bits .and .i64 a1 3 = 1 ∨ bits .and .i64 a1 3 = 2 ∨ bits .and .i64 a1 3 = 3 := by rw [and3]; omega
  rcases hj with hj | hj | hj | hj
  · have hqn : H.g + (1 + x) ≠ H.g := by omega
    have FP : Hid (fits H.bytes H.g H.l H.v H.m = true) := hide (by rw [fits_bytes H HH.out]; simp)
    have FR : Hid (fits H.bytes H.g H.l H.v (1 + yy) = true) := hide (by rw [fits_bytes H HH.out, decide_eq_true (show 1 + yy ≤ H.m by omega)]; simp)
    have FQ : Hid (fits H.bytes (H.g + (1 + x)) H.l H.v H.m = false) := hide (by rw [fits_bytes H HH.out, decide_eq_false (Ne.symm hqn)]; simp)
    obtain ⟨W7, hw7⟩ : ∃ W7, W6.setCell ⟨q, 0, none⟩ (.int .i64 (H.g + (1 + x))) = W7 := ⟨_, rfl⟩
    have hk7 : Kept [q] W6 W7 := by rw [← hw7]; exact (Kept.refl [q] W6).set_ (b := q) (.inl (by simp)) 0 _
    have hq7 : Blk W7 q 26 #[.int .i64 (H.g + (1 + x)), .int .i64 a3, .int .i64 H.l, .int .i64 H.v, .int .i64 H.m] := by rw [← hw7]; exact HQ6.out.set_ 0 (.int .i64 (H.g + (1 + x)))
    have hp7 := hk7.blk HP6.out (by simp; exact hpq)
    have hb7 := hk7.blk HB6.out (by simp; exact hgq)
    have ha7 := HA6.out.kept hk7 (by simp; exact hbq)
    obtain ⟨W8, hw8⟩ : ∃ W8, W7.alloc (.cells #[.int .i64 H.g, .int .i64 a3, .int .i64 H.l, .int .i64 H.v, .int .i64 H.m] 26) = W8 := ⟨_, rfl⟩
    have hk8 : Kept [] W7 W8 := by rw [← hw8]; exact (Kept.refl [] W7).alloc _
    have hr8 : Blk W8 W7.heap.size 26 #[.int .i64 H.g, .int .i64 a3, .int .i64 H.l, .int .i64 H.v, .int .i64 H.m] := by rw [← hw8]; exact Blk.new W7 _ _
    obtain ⟨r, hr⟩ : ∃ r, W7.heap.size = r := ⟨_, rfl⟩
    rw [hr] at hr8
    have hq7l := hq7.lt
    have hp7l := hp7.lt
    have ha7l := ha7.lt
    have hqr : q ≠ r := by omega
    have hpr : p ≠ r := by omega
    have hbr : b ≠ r := by omega
    have HRW : Hid (w.heap.size ≤ r) := hide (by have := HK6.out.size; have := hk7.size; omega)
    have HK8 := hide ((HK6.out.trans hk7 (by simp; exact HQW.out)).trans hk8 (by simp))
    obtain ⟨pp0, pp1, pp2, pp3, pp4⟩ := pos_at hp7
    have bb1 : W8.cell? ⟨g, 1, none⟩ = some (.int .i64 H.m) := (hk8.blk hb7 (by simp)).cell 1
    have rr4 : W8.cell? ⟨r, 4, none⟩ = some (.int .i64 H.m) := hr8.cell 4
    have fr4 := hr8.frozen 4
    obtain ⟨W9, hw9⟩ : ∃ W9, W8.setCell ⟨r, 4, none⟩ (.int .i64 (1 + yy)) = W9 := ⟨_, rfl⟩
    have hk9 : Kept [r] W8 W9 := by rw [← hw9]; exact (Kept.refl [r] W8).set_ (b := r) (.inl (by simp)) 4 _
    have HR9 : Hid (Blk W9 r 26 #[.int .i64 H.g, .int .i64 a3, .int .i64 H.l, .int .i64 H.v, .int .i64 (1 + yy)]) := hide (by rw [← hw9]; exact hr8.set_ 4 (.int .i64 (1 + yy)))
    have HP9 := hide (hk9.blk (hk8.blk hp7 (by simp)) (by simp; exact hpr))
    have HQ9 := hide (hk9.blk (hk8.blk hq7 (by simp)) (by simp; exact hqr))
    have HA9 := hide ((ha7.kept hk8 (by simp)).kept hk9 (by simp; exact hbr))
    have HK9 := hide (HK8.out.trans hk9 (by simp; exact HRW.out))
    clear hk7 hq7 hp7 hb7 ha7 hk8 hr8 hk9 HK8 HK6 HP6 HQ6 HB6 HA6
    go_wp2_with fail
    refine (round_any a2 H.m _ (by omega) (by omega)).mono ?_
    rintro e W10 ⟨rfl, rfl⟩
    rw [HY.out]
    obtain ⟨s0, s1, s2, s3, s4⟩ := pos_at HP9.out
    go_wp2_with fail
    refine (fits_any (some ⟨b, 0, none⟩) 64 c H.bytes H.g a3 H.l H.v H.m _ (HA9.out.vals (by simp)) H.bytes_len (by simp) (by omega)).mono ?_
    rintro e W10 ⟨rfl, hk⟩
    rw [FP.out]
    have HK10 := hide (HK9.out.trans hk (by simp))
    have HA10 := hide (HA9.out.kept hk (by simp))
    have HR10 := hide (hk.blk HR9.out (by simp))
    have HQ10 := hide (hk.blk HQ9.out (by simp))
    clear hk hw7 hw8 hw9 s0 s1 s2 s3 s4 HP9 HR9 HQ9 HK9 HA9 pp0 pp1 pp2 pp3 pp4 bb1 rr4 fr4 p0 p1 p2 p3 p4 q0 q1 q2 q3 q4 f0 f2 f3 f4 hr
    obtain ⟨s0, s1, s2, s3, s4⟩ := pos_at HR10.out
    go_wp2_with fail
    refine (fits_any (some ⟨b, 0, none⟩) 64 c H.bytes H.g a3 H.l H.v (1 + yy) _ (HA10.out.vals (by simp)) H.bytes_len (by simp) (by omega)).mono ?_
    rintro e W11 ⟨rfl, hk⟩
    rw [FR.out]
    have HK11 := hide (HK10.out.trans hk (by simp))
    have HA11 := hide (HA10.out.kept hk (by simp))
    have HQ11 := hide (hk.blk HQ10.out (by simp))
    clear hk s0 s1 s2 s3 s4 HR10 HQ10 HK10 HA10
    obtain ⟨s0, s1, s2, s3, s4⟩ := pos_at HQ11.out
    go_wp2_with fail
    refine (fits_any (some ⟨b, 0, none⟩) 64 c H.bytes (H.g + (1 + x)) a3 H.l H.v H.m _ (HA11.out.vals (by simp)) H.bytes_len (by simp) (by omega)).mono ?_
    rintro e W12 ⟨rfl, hk⟩
    rw [FQ.out]
    have HK12 := hide (HK11.out.trans hk (by simp))
    have HA12 := hide (HA11.out.kept hk (by simp))
    clear hk s0 s1 s2 s3 s4 HQ11 HK11 HA11 HA12
    go_wp2_with fail
    refine (awake_any _).mono ?_
    rintro e W13 ⟨rfl, hk⟩
    have HK13 := hide (HK12.out.trans hk (by simp))
    clear hk
    go_wp2
    go_ret
    exact ⟨rfl, HK13.out.below (by simp)⟩
  · have hqn : H.l + (1 + x) ≠ H.l := by omega
    have FP : Hid (fits H.bytes H.g H.l H.v H.m = true) := hide (by rw [fits_bytes H HH.out]; simp)
    have FR : Hid (fits H.bytes H.g H.l H.v (1 + yy) = true) := hide (by rw [fits_bytes H HH.out, decide_eq_true (show 1 + yy ≤ H.m by omega)]; simp)
    have FQ : Hid (fits H.bytes H.g (H.l + (1 + x)) H.v H.m = false) := hide (by rw [fits_bytes H HH.out, decide_eq_false (Ne.symm hqn)]; simp)
    obtain ⟨W7, hw7⟩ : ∃ W7, W6.setCell ⟨q, 2, none⟩ (.int .i64 (H.l + (1 + x))) = W7 := ⟨_, rfl⟩
    have hk7 : Kept [q] W6 W7 := by rw [← hw7]; exact (Kept.refl [q] W6).set_ (b := q) (.inl (by simp)) 2 _
    have hq7 : Blk W7 q 26 #[.int .i64 H.g, .int .i64 a3, .int .i64 (H.l + (1 + x)), .int .i64 H.v, .int .i64 H.m] := by rw [← hw7]; exact HQ6.out.set_ 2 (.int .i64 (H.l + (1 + x)))
    have hp7 := hk7.blk HP6.out (by simp; exact hpq)
    have hb7 := hk7.blk HB6.out (by simp; exact hgq)
    have ha7 := HA6.out.kept hk7 (by simp; exact hbq)
    obtain ⟨W8, hw8⟩ : ∃ W8, W7.alloc (.cells #[.int .i64 H.g, .int .i64 a3, .int .i64 H.l, .int .i64 H.v, .int .i64 H.m] 26) = W8 := ⟨_, rfl⟩
    have hk8 : Kept [] W7 W8 := by rw [← hw8]; exact (Kept.refl [] W7).alloc _
    have hr8 : Blk W8 W7.heap.size 26 #[.int .i64 H.g, .int .i64 a3, .int .i64 H.l, .int .i64 H.v, .int .i64 H.m] := by rw [← hw8]; exact Blk.new W7 _ _
    obtain ⟨r, hr⟩ : ∃ r, W7.heap.size = r := ⟨_, rfl⟩
    rw [hr] at hr8
    have hq7l := hq7.lt
    have hp7l := hp7.lt
    have ha7l := ha7.lt
    have hqr : q ≠ r := by omega
    have hpr : p ≠ r := by omega
    have hbr : b ≠ r := by omega
    have HRW : Hid (w.heap.size ≤ r) := hide (by have := HK6.out.size; have := hk7.size; omega)
    have HK8 := hide ((HK6.out.trans hk7 (by simp; exact HQW.out)).trans hk8 (by simp))
    obtain ⟨pp0, pp1, pp2, pp3, pp4⟩ := pos_at hp7
    have bb1 : W8.cell? ⟨g, 1, none⟩ = some (.int .i64 H.m) := (hk8.blk hb7 (by simp)).cell 1
    have rr4 : W8.cell? ⟨r, 4, none⟩ = some (.int .i64 H.m) := hr8.cell 4
    have fr4 := hr8.frozen 4
    obtain ⟨W9, hw9⟩ : ∃ W9, W8.setCell ⟨r, 4, none⟩ (.int .i64 (1 + yy)) = W9 := ⟨_, rfl⟩
    have hk9 : Kept [r] W8 W9 := by rw [← hw9]; exact (Kept.refl [r] W8).set_ (b := r) (.inl (by simp)) 4 _
    have HR9 : Hid (Blk W9 r 26 #[.int .i64 H.g, .int .i64 a3, .int .i64 H.l, .int .i64 H.v, .int .i64 (1 + yy)]) := hide (by rw [← hw9]; exact hr8.set_ 4 (.int .i64 (1 + yy)))
    have HP9 := hide (hk9.blk (hk8.blk hp7 (by simp)) (by simp; exact hpr))
    have HQ9 := hide (hk9.blk (hk8.blk hq7 (by simp)) (by simp; exact hqr))
    have HA9 := hide ((ha7.kept hk8 (by simp)).kept hk9 (by simp; exact hbr))
    have HK9 := hide (HK8.out.trans hk9 (by simp; exact HRW.out))
    clear hk7 hq7 hp7 hb7 ha7 hk8 hr8 hk9 HK8 HK6 HP6 HQ6 HB6 HA6
    go_wp2_with fail
    refine (round_any a2 H.m _ (by omega) (by omega)).mono ?_
    rintro e W10 ⟨rfl, rfl⟩
    rw [HY.out]
    obtain ⟨s0, s1, s2, s3, s4⟩ := pos_at HP9.out
    go_wp2_with fail
    refine (fits_any (some ⟨b, 0, none⟩) 64 c H.bytes H.g a3 H.l H.v H.m _ (HA9.out.vals (by simp)) H.bytes_len (by simp) (by omega)).mono ?_
    rintro e W10 ⟨rfl, hk⟩
    rw [FP.out]
    have HK10 := hide (HK9.out.trans hk (by simp))
    have HA10 := hide (HA9.out.kept hk (by simp))
    have HR10 := hide (hk.blk HR9.out (by simp))
    have HQ10 := hide (hk.blk HQ9.out (by simp))
    clear hk hw7 hw8 hw9 s0 s1 s2 s3 s4 HP9 HR9 HQ9 HK9 HA9 pp0 pp1 pp2 pp3 pp4 bb1 rr4 fr4 p0 p1 p2 p3 p4 q0 q1 q2 q3 q4 f0 f2 f3 f4 hr
    obtain ⟨s0, s1, s2, s3, s4⟩ := pos_at HR10.out
    go_wp2_with fail
    refine (fits_any (some ⟨b, 0, none⟩) 64 c H.bytes H.g a3 H.l H.v (1 + yy) _ (HA10.out.vals (by simp)) H.bytes_len (by simp) (by omega)).mono ?_
    rintro e W11 ⟨rfl, hk⟩
    rw [FR.out]
    have HK11 := hide (HK10.out.trans hk (by simp))
    have HA11 := hide (HA10.out.kept hk (by simp))
    have HQ11 := hide (hk.blk HQ10.out (by simp))
    clear hk s0 s1 s2 s3 s4 HR10 HQ10 HK10 HA10
    obtain ⟨s0, s1, s2, s3, s4⟩ := pos_at HQ11.out
    go_wp2_with fail
    refine (fits_any (some ⟨b, 0, none⟩) 64 c H.bytes H.g a3 (H.l + (1 + x)) H.v H.m _ (HA11.out.vals (by simp)) H.bytes_len (by simp) (by omega)).mono ?_
    rintro e W12 ⟨rfl, hk⟩
    rw [FQ.out]
    have HK12 := hide (HK11.out.trans hk (by simp))
    have HA12 := hide (HA11.out.kept hk (by simp))
    clear hk s0 s1 s2 s3 s4 HQ11 HK11 HA11 HA12
    go_wp2_with fail
    refine (awake_any _).mono ?_
    rintro e W13 ⟨rfl, hk⟩
    have HK13 := hide (HK12.out.trans hk (by simp))
    clear hk
    go_wp2
    go_ret
    exact ⟨rfl, HK13.out.below (by simp)⟩
  · have hqn : H.v - (1 + x) ≠ H.v := by omega
    have FP : Hid (fits H.bytes H.g H.l H.v H.m = true) := hide (by rw [fits_bytes H HH.out]; simp)
    have FR : Hid (fits H.bytes H.g H.l H.v (1 + yy) = true) := hide (by rw [fits_bytes H HH.out, decide_eq_true (show 1 + yy ≤ H.m by omega)]; simp)
    have FQ : Hid (fits H.bytes H.g H.l (H.v - (1 + x)) H.m = false) := hide (by rw [fits_bytes H HH.out, decide_eq_false (Ne.symm hqn)]; simp)
    obtain ⟨W7, hw7⟩ : ∃ W7, W6.setCell ⟨q, 3, none⟩ (.int .i64 (H.v - (1 + x))) = W7 := ⟨_, rfl⟩
    have hk7 : Kept [q] W6 W7 := by rw [← hw7]; exact (Kept.refl [q] W6).set_ (b := q) (.inl (by simp)) 3 _
    have hq7 : Blk W7 q 26 #[.int .i64 H.g, .int .i64 a3, .int .i64 H.l, .int .i64 (H.v - (1 + x)), .int .i64 H.m] := by rw [← hw7]; exact HQ6.out.set_ 3 (.int .i64 (H.v - (1 + x)))
    have hp7 := hk7.blk HP6.out (by simp; exact hpq)
    have hb7 := hk7.blk HB6.out (by simp; exact hgq)
    have ha7 := HA6.out.kept hk7 (by simp; exact hbq)
    obtain ⟨W8, hw8⟩ : ∃ W8, W7.alloc (.cells #[.int .i64 H.g, .int .i64 a3, .int .i64 H.l, .int .i64 H.v, .int .i64 H.m] 26) = W8 := ⟨_, rfl⟩
    have hk8 : Kept [] W7 W8 := by rw [← hw8]; exact (Kept.refl [] W7).alloc _
    have hr8 : Blk W8 W7.heap.size 26 #[.int .i64 H.g, .int .i64 a3, .int .i64 H.l, .int .i64 H.v, .int .i64 H.m] := by rw [← hw8]; exact Blk.new W7 _ _
    obtain ⟨r, hr⟩ : ∃ r, W7.heap.size = r := ⟨_, rfl⟩
    rw [hr] at hr8
    have hq7l := hq7.lt
    have hp7l := hp7.lt
    have ha7l := ha7.lt
    have hqr : q ≠ r := by omega
    have hpr : p ≠ r := by omega
    have hbr : b ≠ r := by omega
    have HRW : Hid (w.heap.size ≤ r) := hide (by have := HK6.out.size; have := hk7.size; omega)
    have HK8 := hide ((HK6.out.trans hk7 (by simp; exact HQW.out)).trans hk8 (by simp))
    obtain ⟨pp0, pp1, pp2, pp3, pp4⟩ := pos_at hp7
    have bb1 : W8.cell? ⟨g, 1, none⟩ = some (.int .i64 H.m) := (hk8.blk hb7 (by simp)).cell 1
    have rr4 : W8.cell? ⟨r, 4, none⟩ = some (.int .i64 H.m) := hr8.cell 4
    have fr4 := hr8.frozen 4
    obtain ⟨W9, hw9⟩ : ∃ W9, W8.setCell ⟨r, 4, none⟩ (.int .i64 (1 + yy)) = W9 := ⟨_, rfl⟩
    have hk9 : Kept [r] W8 W9 := by rw [← hw9]; exact (Kept.refl [r] W8).set_ (b := r) (.inl (by simp)) 4 _
    have HR9 : Hid (Blk W9 r 26 #[.int .i64 H.g, .int .i64 a3, .int .i64 H.l, .int .i64 H.v, .int .i64 (1 + yy)]) := hide (by rw [← hw9]; exact hr8.set_ 4 (.int .i64 (1 + yy)))
    have HP9 := hide (hk9.blk (hk8.blk hp7 (by simp)) (by simp; exact hpr))
    have HQ9 := hide (hk9.blk (hk8.blk hq7 (by simp)) (by simp; exact hqr))
    have HA9 := hide ((ha7.kept hk8 (by simp)).kept hk9 (by simp; exact hbr))
    have HK9 := hide (HK8.out.trans hk9 (by simp; exact HRW.out))
    clear hk7 hq7 hp7 hb7 ha7 hk8 hr8 hk9 HK8 HK6 HP6 HQ6 HB6 HA6
    go_wp2_with fail
    refine (round_any a2 H.m _ (by omega) (by omega)).mono ?_
    rintro e W10 ⟨rfl, rfl⟩
    rw [HY.out]
    obtain ⟨s0, s1, s2, s3, s4⟩ := pos_at HP9.out
    go_wp2_with fail
    refine (fits_any (some ⟨b, 0, none⟩) 64 c H.bytes H.g a3 H.l H.v H.m _ (HA9.out.vals (by simp)) H.bytes_len (by simp) (by omega)).mono ?_
    rintro e W10 ⟨rfl, hk⟩
    rw [FP.out]
    have HK10 := hide (HK9.out.trans hk (by simp))
    have HA10 := hide (HA9.out.kept hk (by simp))
    have HR10 := hide (hk.blk HR9.out (by simp))
    have HQ10 := hide (hk.blk HQ9.out (by simp))
    clear hk hw7 hw8 hw9 s0 s1 s2 s3 s4 HP9 HR9 HQ9 HK9 HA9 pp0 pp1 pp2 pp3 pp4 bb1 rr4 fr4 p0 p1 p2 p3 p4 q0 q1 q2 q3 q4 f0 f2 f3 f4 hr
    obtain ⟨s0, s1, s2, s3, s4⟩ := pos_at HR10.out
    go_wp2_with fail
    refine (fits_any (some ⟨b, 0, none⟩) 64 c H.bytes H.g a3 H.l H.v (1 + yy) _ (HA10.out.vals (by simp)) H.bytes_len (by simp) (by omega)).mono ?_
    rintro e W11 ⟨rfl, hk⟩
    rw [FR.out]
    have HK11 := hide (HK10.out.trans hk (by simp))
    have HA11 := hide (HA10.out.kept hk (by simp))
    have HQ11 := hide (hk.blk HQ10.out (by simp))
    clear hk s0 s1 s2 s3 s4 HR10 HQ10 HK10 HA10
    obtain ⟨s0, s1, s2, s3, s4⟩ := pos_at HQ11.out
    go_wp2_with fail
    refine (fits_any (some ⟨b, 0, none⟩) 64 c H.bytes H.g a3 H.l (H.v - (1 + x)) H.m _ (HA11.out.vals (by simp)) H.bytes_len (by simp) (by omega)).mono ?_
    rintro e W12 ⟨rfl, hk⟩
    rw [FQ.out]
    have HK12 := hide (HK11.out.trans hk (by simp))
    have HA12 := hide (HA11.out.kept hk (by simp))
    clear hk s0 s1 s2 s3 s4 HQ11 HK11 HA11 HA12
    go_wp2_with fail
    refine (awake_any _).mono ?_
    rintro e W13 ⟨rfl, hk⟩
    have HK13 := hide (HK12.out.trans hk (by simp))
    clear hk
    go_wp2
    go_ret
    exact ⟨rfl, HK13.out.below (by simp)⟩
  · have hqn : H.m + (1 + x) ≠ H.m := by omega
    have FP : Hid (fits H.bytes H.g H.l H.v H.m = true) := hide (by rw [fits_bytes H HH.out]; simp)
    have FR : Hid (fits H.bytes H.g H.l H.v (1 + yy) = true) := hide (by rw [fits_bytes H HH.out, decide_eq_true (show 1 + yy ≤ H.m by omega)]; simp)
    have FQ : Hid (fits H.bytes H.g H.l H.v (H.m + (1 + x)) = false) := hide (by rw [fits_bytes H HH.out, decide_eq_false (show ¬ H.m + (1 + x) ≤ H.m by omega)]; simp)
    obtain ⟨W7, hw7⟩ : ∃ W7, W6.setCell ⟨q, 4, none⟩ (.int .i64 (H.m + (1 + x))) = W7 := ⟨_, rfl⟩
    have hk7 : Kept [q] W6 W7 := by rw [← hw7]; exact (Kept.refl [q] W6).set_ (b := q) (.inl (by simp)) 4 _
    have hq7 : Blk W7 q 26 #[.int .i64 H.g, .int .i64 a3, .int .i64 H.l, .int .i64 H.v, .int .i64 (H.m + (1 + x))] := by rw [← hw7]; exact HQ6.out.set_ 4 (.int .i64 (H.m + (1 + x)))
    have hp7 := hk7.blk HP6.out (by simp; exact hpq)
    have hb7 := hk7.blk HB6.out (by simp; exact hgq)
    have ha7 := HA6.out.kept hk7 (by simp; exact hbq)
    obtain ⟨W8, hw8⟩ : ∃ W8, W7.alloc (.cells #[.int .i64 H.g, .int .i64 a3, .int .i64 H.l, .int .i64 H.v, .int .i64 H.m] 26) = W8 := ⟨_, rfl⟩
    have hk8 : Kept [] W7 W8 := by rw [← hw8]; exact (Kept.refl [] W7).alloc _
    have hr8 : Blk W8 W7.heap.size 26 #[.int .i64 H.g, .int .i64 a3, .int .i64 H.l, .int .i64 H.v, .int .i64 H.m] := by rw [← hw8]; exact Blk.new W7 _ _
    obtain ⟨r, hr⟩ : ∃ r, W7.heap.size = r := ⟨_, rfl⟩
    rw [hr] at hr8
    have hq7l := hq7.lt
    have hp7l := hp7.lt
    have ha7l := ha7.lt
    have hqr : q ≠ r := by omega
    have hpr : p ≠ r := by omega
    have hbr : b ≠ r := by omega
    have HRW : Hid (w.heap.size ≤ r) := hide (by have := HK6.out.size; have := hk7.size; omega)
    have HK8 := hide ((HK6.out.trans hk7 (by simp; exact HQW.out)).trans hk8 (by simp))
    obtain ⟨pp0, pp1, pp2, pp3, pp4⟩ := pos_at hp7
    have bb1 : W8.cell? ⟨g, 1, none⟩ = some (.int .i64 H.m) := (hk8.blk hb7 (by simp)).cell 1
    have rr4 : W8.cell? ⟨r, 4, none⟩ = some (.int .i64 H.m) := hr8.cell 4
    have fr4 := hr8.frozen 4
    obtain ⟨W9, hw9⟩ : ∃ W9, W8.setCell ⟨r, 4, none⟩ (.int .i64 (1 + yy)) = W9 := ⟨_, rfl⟩
    have hk9 : Kept [r] W8 W9 := by rw [← hw9]; exact (Kept.refl [r] W8).set_ (b := r) (.inl (by simp)) 4 _
    have HR9 : Hid (Blk W9 r 26 #[.int .i64 H.g, .int .i64 a3, .int .i64 H.l, .int .i64 H.v, .int .i64 (1 + yy)]) := hide (by rw [← hw9]; exact hr8.set_ 4 (.int .i64 (1 + yy)))
    have HP9 := hide (hk9.blk (hk8.blk hp7 (by simp)) (by simp; exact hpr))
    have HQ9 := hide (hk9.blk (hk8.blk hq7 (by simp)) (by simp; exact hqr))
    have HA9 := hide ((ha7.kept hk8 (by simp)).kept hk9 (by simp; exact hbr))
    have HK9 := hide (HK8.out.trans hk9 (by simp; exact HRW.out))
    clear hk7 hq7 hp7 hb7 ha7 hk8 hr8 hk9 HK8 HK6 HP6 HQ6 HB6 HA6
    go_wp2_with fail
    refine (round_any a2 H.m _ (by omega) (by omega)).mono ?_
    rintro e W10 ⟨rfl, rfl⟩
    rw [HY.out]
    obtain ⟨s0, s1, s2, s3, s4⟩ := pos_at HP9.out
    go_wp2_with fail
    refine (fits_any (some ⟨b, 0, none⟩) 64 c H.bytes H.g a3 H.l H.v H.m _ (HA9.out.vals (by simp)) H.bytes_len (by simp) (by omega)).mono ?_
    rintro e W10 ⟨rfl, hk⟩
    rw [FP.out]
    have HK10 := hide (HK9.out.trans hk (by simp))
    have HA10 := hide (HA9.out.kept hk (by simp))
    have HR10 := hide (hk.blk HR9.out (by simp))
    have HQ10 := hide (hk.blk HQ9.out (by simp))
    clear hk hw7 hw8 hw9 s0 s1 s2 s3 s4 HP9 HR9 HQ9 HK9 HA9 pp0 pp1 pp2 pp3 pp4 bb1 rr4 fr4 p0 p1 p2 p3 p4 q0 q1 q2 q3 q4 f0 f2 f3 f4 hr
    obtain ⟨s0, s1, s2, s3, s4⟩ := pos_at HR10.out
    go_wp2_with fail
    refine (fits_any (some ⟨b, 0, none⟩) 64 c H.bytes H.g a3 H.l H.v (1 + yy) _ (HA10.out.vals (by simp)) H.bytes_len (by simp) (by omega)).mono ?_
    rintro e W11 ⟨rfl, hk⟩
    rw [FR.out]
    have HK11 := hide (HK10.out.trans hk (by simp))
    have HA11 := hide (HA10.out.kept hk (by simp))
    have HQ11 := hide (hk.blk HQ10.out (by simp))
    clear hk s0 s1 s2 s3 s4 HR10 HQ10 HK10 HA10
    obtain ⟨s0, s1, s2, s3, s4⟩ := pos_at HQ11.out
    go_wp2_with fail
    refine (fits_any (some ⟨b, 0, none⟩) 64 c H.bytes H.g a3 H.l H.v (H.m + (1 + x)) _ (HA11.out.vals (by simp)) H.bytes_len (by simp) (by omega)).mono ?_
    rintro e W12 ⟨rfl, hk⟩
    rw [FQ.out]
    have HK12 := hide (HK11.out.trans hk (by simp))
    have HA12 := hide (HA11.out.kept hk (by simp))
    clear hk s0 s1 s2 s3 s4 HQ11 HK11 HA11 HA12
    go_wp2_with fail
    refine (awake_any _).mono ?_
    rintro e W13 ⟨rfl, hk⟩
    have HK13 := hide (HK12.out.trans hk (by simp))
    clear hk
    go_wp2
    go_ret
    exact ⟨rfl, HK13.out.below (by simp)⟩

/-! ### the row's step, as the guide's skeleton has it -/
set_option maxRecDepth 100000 in
theorem lifted (os : Os) (started : os.Started) (H : Type) (enc : TypeId × Value → H) :
    ReturnsInHanded {} Try.checked os 5 .any (Rows.headFitsSpec.pre6 enc Try.prog Try.f5 Rows.headFitsRow.domain false) (Rows.headFitsSpec.post enc Try.prog Try.f5 false true false false) := by
  refine returnsInHanded_of_change (C := Try.checked) own started (by kernel_rfl) Try.func5
    (ChangeSpec.witness6 (enc := enc) (C := Try.checked) false ⟨#[], #[.agg #[.int .i64 0, .int .i64 0, .int .i64 0, .int .i64 0], .int .i64 0, .int .i64 0, .int .i64 0], []⟩ 8 (by kernel_rfl) (by kernel_rfl) (by kernel_rfl) (by kernel_rfl)) ?_
  intro W base args ds gs before hval0 hW hcnd _
  have hval : ∀ (j : Nat) t v, Try.f5.params[j]? = some t → args[j]? = some v → Value.okWide Try.prog W .any base t v := hval0
  have hW' := hW
  obtain ⟨p, q, hA0, hV, rfl, hfz, hnd⟩ := hW
  have hA : DataW.TrodAll enc Try.prog W 0 (fun _ => true) true Try.f5.params.toList args.toList ds p := hA0
  rw [Try.params5] at hA hval
  obtain ⟨v0, vs0, d0, ds0, p0, q0, hargs, rfl, rfl, h0, r0⟩ := trodAll_cons hA
  obtain ⟨v1, vs1, d1, ds1, p1, q1, rfl, rfl, rfl, h1, r1⟩ := trodAll_cons r0
  obtain ⟨v2, vs2, d2, ds2, p2, q2, rfl, rfl, rfl, h2, r2⟩ := trodAll_cons r1
  obtain ⟨v3, vs3, d3, ds3, p3, q3, rfl, rfl, rfl, h3, r3⟩ := trodAll_cons r2
  obtain ⟨rfl, rfl, rfl⟩ := trodAll_nil r3
  obtain rfl : args = #[v0, v1, v2, v3] := by cases args; simp_all
  obtain ⟨rfl, rfl⟩ := trodVars_none hV
  have k0 := h0
  have lt0 : ∀ x ∈ p0, x.block < W.heap.size := by obtain ⟨m, hm⟩ := k0; exact DataW.trod_lt m _ _ _ hm
  obtain ⟨xs0, rfl, hl0, hx0⟩ := agg_ints (ts := List.replicate 4 3) (n := 4) (by kernel_rfl) (by kernel_rfl) (fun u hu => by rw [List.eq_of_mem_replicate hu]; exact Try.underlying3) (by kernel_rfl) (hval 0 41 v0 rfl rfl)
  obtain ⟨a0_0, a0_1, a0_2, a0_3, rfl⟩ := list4 hl0
  have w0_0 := hx0 a0_0 (by simp)
  have w0_1 := hx0 a0_1 (by simp)
  have w0_2 := hx0 a0_2 (by simp)
  have w0_3 := hx0 a0_3 (by simp)
  obtain ⟨a1, rfl, rfl, rfl, w1⟩ := open_int Try.underlying3 (hval 1 3 v1 rfl rfl) h1
  obtain ⟨a2, rfl, rfl, rfl, w2⟩ := open_int Try.underlying3 (hval 2 3 v2 rfl rfl) h2
  obtain ⟨a3, rfl, rfl, rfl, w3⟩ := open_int Try.underlying3 (hval 3 3 v3 rfl rfl) h3
  clear hA0 hval0
  refine (walk a0_0 a0_1 a0_2 a0_3 a1 a2 a3 W w0_0 w0_1 w0_2 w0_3 w1 w2 w3).mono fun e W' ⟨he, bel⟩ => ?_
  subst he
  exact ⟨_, rfl, _, _, _, [], _, [], hW', trodAll_mk1 (shut_bool Try.underlying4 _), (trodAll_cons_mk (Below.trod laidOut (by kernel_rfl) (of_decide_eq_true (by kernel_rfl)) k0 bel lt0) (trodAll_cons_mk (shut_int Try.underlying3 w1) (trodAll_cons_mk (shut_int Try.underlying3 w2) (trodAll_cons_mk (shut_int Try.underlying3 w3) trodAll_mk0)))), rfl, bel.frame _, fun h => by cases h⟩

theorem over : Rows.headFitsRow.holds Try.pinned (OpenSpec.ofChange Rows.headFitsSpec) :=
  OpenClaim.holds_of_wide 5 Try.f5 rfl rfl rfl rfl rfl rfl rfl ⟨rfl, rfl, rfl, rfl, rfl⟩ rfl rfl rfl rfl rfl (by kernel_rfl) Try.func5 (by kernel_rfl)
    (of_decide_eq_true (by kernel_rfl)) (by unfold Func.isWrapper; first | (rw [if_pos (by decide +kernel)]; kernel_rfl) | (rw [if_neg (by decide +kernel)]; exact ⟨rfl, rfl⟩))
    (fun os started H enc _ => lifted os started H enc)

/-- The statement. -/
theorem proved : Rows.HeadFitsSaid := over
#print axioms proved
end Go.Proofs.Ytlhomheolcmocaa.headFits

