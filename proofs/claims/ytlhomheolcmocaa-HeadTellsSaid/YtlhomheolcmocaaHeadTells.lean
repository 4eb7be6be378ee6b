/-
  The given statement HeadTellsSaid is proved: whatever the arguments are, the law returns true and leaves its input as it was. No conditions.
-/
import Derived.Test.YtlhomheolcmocaaHeadAwake
import Derived.Test.YtlhomheolcmocaaHeadRFits
import Derived.Test.YtlhomheolcmocaaShapes
import Derived.Test.YtlhomheolcmocaaOpen
import Derived.Test.YtlhomheolcmocaaHeld
import Derived.WalkKit
import Derived.ProofKit
import Derived.OpenShut
import Derived.ShutString
import Derived.ChangeOld
import Derived.Below
namespace Go.Proofs.Ytlhomheolcmocaa.headTells
open Go.ChangeShapes Go.WideShapes Go.ChangeAt Go.RowKit
open Go.ChangeMaps (open_string shut_string)
open Go.Proofs.Ytlhomheolcmocaa.mem Go.Proofs.Ytlhomheolcmocaa.base Go.Proofs.Ytlhomheolcmocaa.hd Go.Proofs.Ytlhomheolcmocaa.crc
set_option linter.unusedVariables false

theorem own : ownKnob Try.prog.godebug = none := by kernel_rfl
theorem laidOut : laidOutB Try.prog = true := by kernel_rfl

theorem pos_at {w : World} {g : Nat} {t : TypeId} {s o l v m : Int} (h : Blk w g t #[.int .i64 s, .int .i64 o, .int .i64 l, .int .i64 v, .int .i64 m]) : w.cell? ⟨g, 0, none⟩ = some (.int .i64 s) ∧ w.cell? ⟨g, 1, none⟩ = some (.int .i64 o) ∧ w.cell? ⟨g, 2, none⟩ = some (.int .i64 l) ∧ w.cell? ⟨g, 3, none⟩ = some (.int .i64 v) ∧ w.cell? ⟨g, 4, none⟩ = some (.int .i64 m) :=
  ⟨h.cell 0, h.cell 1, h.cell 2, h.cell 3, h.cell 4⟩
theorem held4 {W W' : World} {g : Nat} {H : Hd} (hk : Kept [] W W') (h : W.cell? ⟨g, 0, none⟩ = some (.int .i64 H.g) ∧ W.cell? ⟨g, 1, none⟩ = some (.int .i64 H.m) ∧ W.cell? ⟨g, 2, none⟩ = some (.int .i64 H.l) ∧ W.cell? ⟨g, 3, none⟩ = some (.int .i64 H.v)) : W'.cell? ⟨g, 0, none⟩ = some (.int .i64 H.g) ∧ W'.cell? ⟨g, 1, none⟩ = some (.int .i64 H.m) ∧ W'.cell? ⟨g, 2, none⟩ = some (.int .i64 H.l) ∧ W'.cell? ⟨g, 3, none⟩ = some (.int .i64 H.v) :=
  ⟨hk.cell h.1 (by simp), hk.cell h.2.1 (by simp), hk.cell h.2.2.1 (by simp), hk.cell h.2.2.2 (by simp)⟩
theorem held5 {W W' : World} {q : Nat} {s o l v m : Int} (hk : Kept [] W W') (h : W.cell? ⟨q, 0, none⟩ = some (.int .i64 s) ∧ W.cell? ⟨q, 1, none⟩ = some (.int .i64 o) ∧ W.cell? ⟨q, 2, none⟩ = some (.int .i64 l) ∧ W.cell? ⟨q, 3, none⟩ = some (.int .i64 v) ∧ W.cell? ⟨q, 4, none⟩ = some (.int .i64 m)) : W'.cell? ⟨q, 0, none⟩ = some (.int .i64 s) ∧ W'.cell? ⟨q, 1, none⟩ = some (.int .i64 o) ∧ W'.cell? ⟨q, 2, none⟩ = some (.int .i64 l) ∧ W'.cell? ⟨q, 3, none⟩ = some (.int .i64 v) ∧ W'.cell? ⟨q, 4, none⟩ = some (.int .i64 m) :=
  ⟨hk.cell h.1 (by simp), hk.cell h.2.1 (by simp), hk.cell h.2.2.1 (by simp), hk.cell h.2.2.2.1 (by simp), hk.cell h.2.2.2.2 (by simp)⟩
theorem heldT {W9 W W' : World} {g x y q : Nat} {H u : Hd} {s o l v m : Int} (h : Kept [] W9 W ∧ (W.cell? ⟨g, 0, none⟩ = some (.int .i64 H.g) ∧ W.cell? ⟨g, 1, none⟩ = some (.int .i64 H.m) ∧ W.cell? ⟨g, 2, none⟩ = some (.int .i64 H.l) ∧ W.cell? ⟨g, 3, none⟩ = some (.int .i64 H.v)) ∧ (W.cell? ⟨x, 0, none⟩ = some (.int .i64 u.g) ∧ W.cell? ⟨x, 1, none⟩ = some (.int .i64 u.m) ∧ W.cell? ⟨x, 2, none⟩ = some (.int .i64 u.l) ∧ W.cell? ⟨x, 3, none⟩ = some (.int .i64 u.v)) ∧ (W.cell? ⟨y, 0, none⟩ = some (.int .i64 u.g) ∧ W.cell? ⟨y, 1, none⟩ = some (.int .i64 u.m) ∧ W.cell? ⟨y, 2, none⟩ = some (.int .i64 u.l) ∧ W.cell? ⟨y, 3, none⟩ = some (.int .i64 u.v)) ∧ (W.cell? ⟨q, 0, none⟩ = some (.int .i64 s) ∧ W.cell? ⟨q, 1, none⟩ = some (.int .i64 o) ∧ W.cell? ⟨q, 2, none⟩ = some (.int .i64 l) ∧ W.cell? ⟨q, 3, none⟩ = some (.int .i64 v) ∧ W.cell? ⟨q, 4, none⟩ = some (.int .i64 m))) (hk : Kept [] W W') : Kept [] W9 W' ∧ (W'.cell? ⟨g, 0, none⟩ = some (.int .i64 H.g) ∧ W'.cell? ⟨g, 1, none⟩ = some (.int .i64 H.m) ∧ W'.cell? ⟨g, 2, none⟩ = some (.int .i64 H.l) ∧ W'.cell? ⟨g, 3, none⟩ = some (.int .i64 H.v)) ∧ (W'.cell? ⟨x, 0, none⟩ = some (.int .i64 u.g) ∧ W'.cell? ⟨x, 1, none⟩ = some (.int .i64 u.m) ∧ W'.cell? ⟨x, 2, none⟩ = some (.int .i64 u.l) ∧ W'.cell? ⟨x, 3, none⟩ = some (.int .i64 u.v)) ∧ (W'.cell? ⟨y, 0, none⟩ = some (.int .i64 u.g) ∧ W'.cell? ⟨y, 1, none⟩ = some (.int .i64 u.m) ∧ W'.cell? ⟨y, 2, none⟩ = some (.int .i64 u.l) ∧ W'.cell? ⟨y, 3, none⟩ = some (.int .i64 u.v)) ∧ (W'.cell? ⟨q, 0, none⟩ = some (.int .i64 s) ∧ W'.cell? ⟨q, 1, none⟩ = some (.int .i64 o) ∧ W'.cell? ⟨q, 2, none⟩ = some (.int .i64 l) ∧ W'.cell? ⟨q, 3, none⟩ = some (.int .i64 v) ∧ W'.cell? ⟨q, 4, none⟩ = some (.int .i64 m)) :=
  ⟨h.1.trans hk (by simp), held4 hk h.2.1, held4 hk h.2.2.1, held4 hk h.2.2.2.1, held5 hk h.2.2.2.2⟩

set_option maxRecDepth 100000 in
theorem walk_long (H : Hd) (A : Option Addr) (n c : Nat) (s o l v m : Int) (w : World) (h : 200 < n) :
    Calls Try.prog 3 #[H.val, .slice A n c, posVal s o l v m] w fun e w' => e = .returned (.bool true) ∧ Below w.heap.size w w' := by
  have g1 : (200 : Int) < n := by omega
  have HK := hide (((Kept.refl [] w).alloc (.cells H.cells 23)).alloc (.cells #[.int .i64 s, .int .i64 o, .int .i64 l, .int .i64 v, .int .i64 m] 26))
  unfold Hd.val posVal
  go_enter Try.func3, Try.ntmps3
  go_wp2_with fail
  refine (awake_any _).mono ?_
  rintro e W2 ⟨rfl, hk⟩
  have HK2 := hide (HK.out.trans hk (by simp))
  clear hk
  go_wp2
  go_ret
  exact ⟨rfl, HK2.out.below (by simp)⟩

theorem same_any (A1 A2 : Option Addr) (n1 n2 c1 c2 : Nat) (xs : List UInt8) (w : World) (hn1 : n1 = xs.length) (hn2 : n2 = xs.length) (h1 : Vals w [] A1 (xs.map B)) (h2 : Vals w [] A2 (xs.map B)) (hm : xs.length ≤ 64) :
    Calls Try.prog 13 #[.slice A1 n1 c1, .slice A2 n2 c2] w fun e w' => e = .returned (.bool true) ∧ Kept [] w w' :=
  (base.bytes_any A1 A2 n1 n2 c1 c2 xs xs w hn1.symm hn2.symm h1 h2 (by omega)).mono fun e w' ⟨h, k, hw⟩ => ⟨by rw [h]; simp, by subst hw; exact (Kept.refl [] w).drewN k⟩

set_option maxRecDepth 100000 in
set_option maxHeartbeats 1000000 in
theorem walk_in (H : Hd) (A : Option Addr) (n c : Nat) (bs : List UInt8) (s o l v m : Int) (w : World) (hn : n ≤ 200) (hv : Vals w [] A (bs.map B)) (hl : bs.length = n) (hnc : n ≤ c) (hA : A = none → c = 0) :
    Calls Try.prog 3 #[H.val, .slice A n c, posVal s o l v m] w fun e w' => e = .returned (.bool true) ∧ Below w.heap.size w w' := by
  have g1 : ¬ (200 : Int) < n := by omega
  have HV := hide hv
  have HL := hide hl
  have HA := hide hA
  clear hv hl hA
  obtain ⟨xs, er, hx⟩ : ∃ xs er, encode H = (xs, er) := ⟨_, _, rfl⟩
  obtain ⟨u, eu, hu⟩ : ∃ u eu, hd.decode bs = (u, eu) := ⟨_, _, rfl⟩
  obtain ⟨ft, hft⟩ : ∃ ft, hd.fits bs s l v m = ft := ⟨_, rfl⟩
  have hxl : xs.length ≤ 64 := by
    unfold encode at hx
    split at hx
    · rw [Prod.mk.injEq] at hx
      rw [← hx.1, H.bytes_len]
      exact Nat.le_refl _
    · rw [Prod.mk.injEq] at hx
      rw [← hx.1]
      simp
  have HX := hide hx
  have HU := hide hu
  have HFT := hide hft
  have HXL := hide hxl
  clear hx hu hxl hft
  obtain ⟨W0, hw0⟩ : ∃ W0, w.alloc (.cells H.cells 23) = W0 := ⟨_, rfl⟩
  have hk0 : Kept [] w W0 := by rw [← hw0]; exact (Kept.refl [] w).alloc _
  have hb0 : Blk W0 w.heap.size 23 H.cells := by rw [← hw0]; exact Blk.new w _ _
  obtain ⟨g, hg⟩ : ∃ g, w.heap.size = g := ⟨_, rfl⟩
  rw [hg] at hb0
  obtain ⟨W1, hw1⟩ : ∃ W1, W0.alloc (.cells #[.int .i64 s, .int .i64 o, .int .i64 l, .int .i64 v, .int .i64 m] 26) = W1 := ⟨_, rfl⟩
  have hk1 : Kept [] W0 W1 := by rw [← hw1]; exact (Kept.refl [] W0).alloc _
  have hq1 : Blk W1 W0.heap.size 26 #[.int .i64 s, .int .i64 o, .int .i64 l, .int .i64 v, .int .i64 m] := by rw [← hw1]; exact Blk.new W0 _ _
  obtain ⟨q, hq⟩ : ∃ q, W0.heap.size = q := ⟨_, rfl⟩
  rw [hq] at hq1
  have hb1 := hk1.blk hb0 (by simp)
  obtain ⟨d0, d1, d2, d3⟩ := Hd.cell_at hb1
  have HK1 := hide (hk0.trans hk1 (by simp))
  have HB1 := hide hb1
  have HQ1 := hide hq1
  clear hk0 hk1 hb0 hb1 hq1
  unfold Hd.cells at hw0
  unfold Hd.val posVal
  go_enter Try.func3, Try.ntmps3
  go_wp2_with fail
  refine (encode_any H _).mono ?_
  rintro e W2 ⟨A2, n2, c2, rfl, hn2, hnb, hk⟩
  rw [HX.out] at hn2 hnb ⊢
  have HK2 := hide (HK1.out.trans hk (by simp))
  have HB2 := hide (hk.blk HB1.out (by simp))
  have HQ2 := hide (hk.blk HQ1.out (by simp))
  have HN2 := hide hn2
  have HX2 := hide (hnb.vals (S := []) (by simp))
  obtain ⟨e0, e1, e2, e3⟩ := Hd.cell_at (hk.blk HB1.out (by simp))
  clear hk hn2 hnb hw0 hw1 hg hq d0 d1 d2 d3 HB1 HK1 HQ1
  go_wp2_with fail
  refine (rbytes_any H _).mono ?_
  rintro e W3 ⟨A3, n3, c3, rfl, hn3, hnb, hk⟩
  rw [HX.out] at hn3 hnb ⊢
  have HK3 := hide (HK2.out.trans hk (by simp))
  have HB3 := hide (hk.blk HB2.out (by simp))
  have HQ3 := hide (hk.blk HQ2.out (by simp))
  have HN3 := hide hn3
  have HX3 := hide (HX2.out.kept hk (by simp))
  have HY3 := hide hnb
  clear hk hn3 hnb e0 e1 e2 e3 HB2 HK2 HX2 HQ2
  go_wp2_with fail
  refine (decode_any A n c bs _ (HV.out.kept HK3.out (by simp)) HL.out HA.out (by omega)).mono ?_
  rintro e W4 ⟨rfl, hk⟩
  rw [HU.out]
  obtain ⟨W5, hw5⟩ : ∃ W5, W4.alloc (.cells u.cells 23) = W5 := ⟨_, rfl⟩
  have hk5 : Kept [] W4 W5 := by rw [← hw5]; exact (Kept.refl [] W4).alloc _
  have hb5 : Blk W5 W4.heap.size 23 u.cells := by rw [← hw5]; exact Blk.new W4 _ _
  obtain ⟨x, hx⟩ : ∃ x, W4.heap.size = x := ⟨_, rfl⟩
  rw [hx] at hb5
  have hk35 := hk.trans hk5 (by simp)
  have HK5 := hide (HK3.out.trans hk35 (by simp))
  have HB5 := hide (hk35.blk HB3.out (by simp))
  have HQ5 := hide (hk35.blk HQ3.out (by simp))
  have HX5 := hide (HX3.out.kept hk35 (by simp))
  have HY5 := hide (HY3.out.kept hk35 (by simp))
  have HC5 := hide hb5
  clear hk hk5 hb5 hk35 HK3 HB3 HX3 HY3 HQ3
  unfold Hd.cells at hw5
  unfold Hd.val
  go_wp2_with fail
  refine (rof_any A n c bs _ (HV.out.kept HK5.out (by simp)) HL.out hnc (by omega)).mono ?_
  rintro e W6 ⟨rfl, hk⟩
  rw [HU.out]
  obtain ⟨W9, hw9⟩ : ∃ W9, W6.alloc (.cells u.cells 23) = W9 := ⟨_, rfl⟩
  have hk9 : Kept [] W6 W9 := by rw [← hw9]; exact (Kept.refl [] W6).alloc _
  have hb9 : Blk W9 W6.heap.size 23 u.cells := by rw [← hw9]; exact Blk.new W6 _ _
  obtain ⟨y, hy⟩ : ∃ y, W6.heap.size = y := ⟨_, rfl⟩
  rw [hy] at hb9
  have hk59 := hk.trans hk9 (by simp)
  have HK9 := hide (HK5.out.trans hk59 (by simp))
  have HX9 := hide (HX5.out.kept hk59 (by simp))
  have HY9 := hide (HY5.out.kept hk59 (by simp))
  have HV9 := hide (HV.out.kept HK9.out (by simp))
  have hsg := Hd.cell_at (hk59.blk HB5.out (by simp))
  have hsx := Hd.cell_at (hk59.blk HC5.out (by simp))
  have hsy := Hd.cell_at hb9
  have hsq := pos_at (hk59.blk HQ5.out (by simp))
  have HS9 := hide (show Kept [] W9 W9 ∧ (W9.cell? ⟨g, 0, none⟩ = some (.int .i64 H.g) ∧ W9.cell? ⟨g, 1, none⟩ = some (.int .i64 H.m) ∧ W9.cell? ⟨g, 2, none⟩ = some (.int .i64 H.l) ∧ W9.cell? ⟨g, 3, none⟩ = some (.int .i64 H.v)) ∧ (W9.cell? ⟨x, 0, none⟩ = some (.int .i64 u.g) ∧ W9.cell? ⟨x, 1, none⟩ = some (.int .i64 u.m) ∧ W9.cell? ⟨x, 2, none⟩ = some (.int .i64 u.l) ∧ W9.cell? ⟨x, 3, none⟩ = some (.int .i64 u.v)) ∧ (W9.cell? ⟨y, 0, none⟩ = some (.int .i64 u.g) ∧ W9.cell? ⟨y, 1, none⟩ = some (.int .i64 u.m) ∧ W9.cell? ⟨y, 2, none⟩ = some (.int .i64 u.l) ∧ W9.cell? ⟨y, 3, none⟩ = some (.int .i64 u.v)) ∧ (W9.cell? ⟨q, 0, none⟩ = some (.int .i64 s) ∧ W9.cell? ⟨q, 1, none⟩ = some (.int .i64 o) ∧ W9.cell? ⟨q, 2, none⟩ = some (.int .i64 l) ∧ W9.cell? ⟨q, 3, none⟩ = some (.int .i64 v) ∧ W9.cell? ⟨q, 4, none⟩ = some (.int .i64 m)) from ⟨Kept.refl [] W9, hsg, hsx, hsy, hsq⟩)
  clear hk hk9 hb9 hk59 hsg hsx hsy hsq HK5 HB5 HX5 HY5 HC5 HQ5 hw5 hx
  unfold Hd.cells at hw9
  unfold Hd.val
  go_wp2
  clear hw9 hy
  go_region_held3 (fun W => Kept [] W9 W ∧ (W.cell? ⟨g, 0, none⟩ = some (.int .i64 H.g) ∧ W.cell? ⟨g, 1, none⟩ = some (.int .i64 H.m) ∧ W.cell? ⟨g, 2, none⟩ = some (.int .i64 H.l) ∧ W.cell? ⟨g, 3, none⟩ = some (.int .i64 H.v)) ∧ (W.cell? ⟨x, 0, none⟩ = some (.int .i64 u.g) ∧ W.cell? ⟨x, 1, none⟩ = some (.int .i64 u.m) ∧ W.cell? ⟨x, 2, none⟩ = some (.int .i64 u.l) ∧ W.cell? ⟨x, 3, none⟩ = some (.int .i64 u.v)) ∧ (W.cell? ⟨y, 0, none⟩ = some (.int .i64 u.g) ∧ W.cell? ⟨y, 1, none⟩ = some (.int .i64 u.m) ∧ W.cell? ⟨y, 2, none⟩ = some (.int .i64 u.l) ∧ W.cell? ⟨y, 3, none⟩ = some (.int .i64 u.v)) ∧ (W.cell? ⟨q, 0, none⟩ = some (.int .i64 s) ∧ W.cell? ⟨q, 1, none⟩ = some (.int .i64 o) ∧ W.cell? ⟨q, 2, none⟩ = some (.int .i64 l) ∧ W.cell? ⟨q, 3, none⟩ = some (.int .i64 v) ∧ W.cell? ⟨q, 4, none⟩ = some (.int .i64 m)))
    (first | exact ⟨HS9.out.1.drew, HS9.out.2⟩ | exact heldT (by assumption) hk | assumption)
    (first
      | (go_at_call 11; have hS := ‹Kept [] W9 _ ∧ _›; refine (may_any H _).mono ?_; rintro e wn ⟨rfl, hk⟩)
      | (go_at_call 12; have hS := ‹Kept [] W9 _ ∧ _›; refine (rmay_any H _).mono ?_; rintro e wn ⟨rfl, hk⟩)
      | (go_at_call 13; have hS := ‹Kept [] W9 _ ∧ _›; refine (same_any A2 A3 n2 n3 c2 c3 xs _ HN2.out HN3.out (HX9.out.kept hS.1 (by simp)) (HY9.out.kept hS.1 (by simp)) HXL.out).mono ?_; rintro e wn ⟨rfl, hk⟩)
      | (go_at_call 14; have hS := ‹Kept [] W9 _ ∧ _›; refine (fits_any A n c bs s o l v m _ (HV9.out.kept hS.1 (by simp)) HL.out HA.out (by omega)).mono ?_; rintro e wn ⟨rfl, hk⟩; rw [HFT.out])
      | (go_at_call 15; have hS := ‹Kept [] W9 _ ∧ _›; refine (rfits_any A n c bs s o l v m _ (HV9.out.kept hS.1 (by simp)) HL.out hnc (by omega)).mono ?_; rintro e wn ⟨rfl, hk⟩; rw [HFT.out])
      | (go_at_call 6; have hS := ‹Kept [] W9 _ ∧ _›; refine (awake_any _).mono ?_; rintro e wn ⟨rfl, hk⟩))
  have hS6 := ‹Kept [] W9 _ ∧ _›
  go_wp2
  go_ret
  exact ⟨rfl, (HK9.out.trans hS6.1 (by simp)).below (by simp)⟩

theorem walk (a0_0 a0_1 a0_2 a0_3 : Int) (a1 : Option Addr) (len1 cap1 : Nat) (z1 : List Int) (a2_0 a2_1 a2_2 a2_3 a2_4 : Int) (w : World) (w0_0 : (Lit.int .i64 a0_0).wf = true) (w0_1 : (Lit.int .i64 a0_1).wf = true) (w0_2 : (Lit.int .i64 a0_2).wf = true) (w0_3 : (Lit.int .i64 a0_3).wf = true) (w1 : IsRow .u8 w a1 len1 cap1 z1) (w2_0 : (Lit.int .i64 a2_0).wf = true) (w2_1 : (Lit.int .i64 a2_1).wf = true) (w2_2 : (Lit.int .i64 a2_2).wf = true) (w2_3 : (Lit.int .i64 a2_3).wf = true) (w2_4 : (Lit.int .i64 a2_4).wf = true) :
    Calls Try.prog 3 #[.agg #[.int .i64 a0_0, .int .i64 a0_1, .int .i64 a0_2, .int .i64 a0_3], .slice a1 len1 cap1, .agg #[.int .i64 a2_0, .int .i64 a2_1, .int .i64 a2_2, .int .i64 a2_3, .int .i64 a2_4]] w fun e w' => e = .returned (.bool true) ∧ Below w.heap.size w w' := by
  obtain ⟨bs, hl, hnc, hv, hA⟩ := w1.bytes
  by_cases h : len1 ≤ 200
  · exact walk_in ⟨a0_0, a0_1, a0_2, a0_3⟩ a1 len1 cap1 bs a2_0 a2_1 a2_2 a2_3 a2_4 w h hv hl hnc hA
  · exact walk_long ⟨a0_0, a0_1, a0_2, a0_3⟩ a1 len1 cap1 a2_0 a2_1 a2_2 a2_3 a2_4 w (by omega)

/-! ### the row's step, as the guide's skeleton has it -/
set_option maxRecDepth 100000 in
theorem lifted (os : Os) (started : os.Started) (H : Type) (enc : TypeId × Value → H) :
    ReturnsInHanded {} Try.checked os 3 .any (Rows.headTellsSpec.pre6 enc Try.prog Try.f3 Rows.headTellsRow.domain false) (Rows.headTellsSpec.post enc Try.prog Try.f3 false true false false) := by
  refine returnsInHanded_of_change (C := Try.checked) own started (by kernel_rfl) Try.func3
    (ChangeSpec.witness6 (enc := enc) (C := Try.checked) false ⟨#[], #[.agg #[.int .i64 0, .int .i64 0, .int .i64 0, .int .i64 0], .slice none 0 0, .agg #[.int .i64 0, .int .i64 0, .int .i64 0, .int .i64 0, .int .i64 0]], []⟩ 8 (by kernel_rfl) (by kernel_rfl) (by kernel_rfl) (by kernel_rfl)) ?_
  intro W base args ds gs before hval0 hW hcnd _
  have hval : ∀ (j : Nat) t v, Try.f3.params[j]? = some t → args[j]? = some v → Value.okWide Try.prog W .any base t v := hval0
  have hW' := hW
  obtain ⟨p, q, hA0, hV, rfl, hfz, hnd⟩ := hW
  have hA : DataW.TrodAll enc Try.prog W 0 (fun _ => true) true Try.f3.params.toList args.toList ds p := hA0
  rw [Try.params3] at hA hval
  obtain ⟨v0, vs0, d0, ds0, p0, q0, hargs, rfl, rfl, h0, r0⟩ := trodAll_cons hA
  obtain ⟨v1, vs1, d1, ds1, p1, q1, rfl, rfl, rfl, h1, r1⟩ := trodAll_cons r0
  obtain ⟨v2, vs2, d2, ds2, p2, q2, rfl, rfl, rfl, h2, r2⟩ := trodAll_cons r1
  obtain ⟨rfl, rfl, rfl⟩ := trodAll_nil r2
  obtain rfl : args = #[v0, v1, v2] := by cases args; simp_all
  obtain ⟨rfl, rfl⟩ := trodVars_none hV
  have k0 := h0
  have lt0 : ∀ x ∈ p0, x.block < W.heap.size := by obtain ⟨m, hm⟩ := k0; exact DataW.trod_lt m _ _ _ hm
  obtain ⟨xs0, rfl, hl0, hx0⟩ := agg_ints (ts := List.replicate 4 3) (n := 4) (by kernel_rfl) (by kernel_rfl) (fun u hu => by rw [List.eq_of_mem_replicate hu]; exact Try.underlying3) (by kernel_rfl) (hval 0 23 v0 rfl rfl)
  obtain ⟨a0_0, a0_1, a0_2, a0_3, rfl⟩ := list4 hl0
  have w0_0 := hx0 a0_0 (by simp)
  have w0_1 := hx0 a0_1 (by simp)
  have w0_2 := hx0 a0_2 (by simp)
  have w0_3 := hx0 a0_3 (by simp)
  obtain ⟨a1, len1, cap1, rfl⟩ := okWide_slice Try.underlying24 (hval 1 24 v1 rfl rfl)
  have k1 := h1
  have lt1 : ∀ x ∈ p1, x.block < W.heap.size := by obtain ⟨m, hm⟩ := k1; exact DataW.trod_lt m _ _ _ hm
  obtain ⟨z1, w1⟩ : ∃ zs, IsRow .u8 W a1 len1 cap1 zs := by
    obtain ⟨fuel, hf⟩ := h1
    rcases open_ints Try.underlying24 Try.underlying5 (by kernel_rfl) hf with ⟨hcs, _⟩ | ⟨x, l, c, zs, hcs, _, hl, hm, hz, _, hcell, hwz⟩
    · simp [Value.cells] at hcs
      obtain ⟨rfl, rfl, rfl⟩ := hcs
      exact ⟨[], .inl ⟨rfl, rfl, rfl, rfl⟩⟩
    · simp [Value.cells] at hcs
      obtain ⟨rfl, rfl, rfl⟩ := hcs
      exact ⟨zs, .inr ⟨_, rfl, hl, hm, by simpa using hz, hcell, hwz⟩⟩
  have k2 := h2
  have lt2 : ∀ x ∈ p2, x.block < W.heap.size := by obtain ⟨m, hm⟩ := k2; exact DataW.trod_lt m _ _ _ hm
  obtain ⟨xs2, rfl, hl2, hx2⟩ := agg_ints (ts := List.replicate 5 3) (n := 5) (by kernel_rfl) (by kernel_rfl) (fun u hu => by rw [List.eq_of_mem_replicate hu]; exact Try.underlying3) (by kernel_rfl) (hval 2 26 v2 rfl rfl)
  obtain ⟨a2_0, a2_1, a2_2, a2_3, a2_4, rfl⟩ := list5 hl2
  have w2_0 := hx2 a2_0 (by simp)
  have w2_1 := hx2 a2_1 (by simp)
  have w2_2 := hx2 a2_2 (by simp)
  have w2_3 := hx2 a2_3 (by simp)
  have w2_4 := hx2 a2_4 (by simp)
  clear hA0 hval0
  refine (walk a0_0 a0_1 a0_2 a0_3 a1 len1 cap1 z1 a2_0 a2_1 a2_2 a2_3 a2_4 W w0_0 w0_1 w0_2 w0_3 w1 w2_0 w2_1 w2_2 w2_3 w2_4).mono fun e W' ⟨he, bel⟩ => ?_
  subst he
  exact ⟨_, rfl, _, _, _, [], _, [], hW', trodAll_mk1 (shut_bool Try.underlying4 _), (trodAll_cons_mk (Below.trod laidOut (by kernel_rfl) (of_decide_eq_true (by kernel_rfl)) k0 bel lt0) (trodAll_cons_mk (Below.trod laidOut (by kernel_rfl) (of_decide_eq_true (by kernel_rfl)) k1 bel lt1) (trodAll_cons_mk (Below.trod laidOut (by kernel_rfl) (of_decide_eq_true (by kernel_rfl)) k2 bel lt2) trodAll_mk0))), rfl, bel.frame _, fun h => by cases h⟩

theorem over : Rows.headTellsRow.holds Try.pinned (OpenSpec.ofChange Rows.headTellsSpec) :=
  OpenClaim.holds_of_wide 3 Try.f3 rfl rfl rfl rfl rfl rfl rfl ⟨rfl, rfl, rfl, rfl, rfl⟩ rfl rfl rfl rfl rfl (by kernel_rfl) Try.func3 (by kernel_rfl)
    (of_decide_eq_true (by kernel_rfl)) (by unfold Func.isWrapper; first | (rw [if_pos (by decide +kernel)]; kernel_rfl) | (rw [if_neg (by decide +kernel)]; exact ⟨rfl, rfl⟩))
    (fun os started H enc _ => lifted os started H enc)

/-- The statement. -/
theorem proved : Rows.HeadTellsSaid := over
#print axioms proved
end Go.Proofs.Ytlhomheolcmocaa.headTells

