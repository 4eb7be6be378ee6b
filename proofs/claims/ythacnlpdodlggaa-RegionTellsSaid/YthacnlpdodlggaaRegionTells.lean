/-
  The given statement RegionTellsSaid is proved: whatever the arguments are, the law returns true and leaves its input as it was. No conditions.
-/
import Derived.Test.YthacnlpdodlggaaRegionAwake
import Derived.Test.YthacnlpdodlggaaRegionRBytes
import Derived.Test.YthacnlpdodlggaaRegionIn
import Derived.Test.YthacnlpdodlggaaShapes
import Derived.WalkKit
import Derived.ProofKit
import Derived.OpenShut
import Derived.ShutString
import Derived.ChangeOld
import Derived.Below
namespace Go.Proofs.Ythacnlpdodlggaa.regionTells
open Go.ChangeShapes Go.WideShapes Go.ChangeAt Go.RowKit
open Go.ChangeMaps (open_string shut_string)
open Go.Proofs.Ythacnlpdodlggaa.mem Go.Proofs.Ythacnlpdodlggaa.base Go.Proofs.Ythacnlpdodlggaa.rg
set_option linter.unusedVariables false

theorem own : ownKnob Try.prog.godebug = none := by kernel_rfl
theorem laidOut : laidOutB Try.prog = true := by kernel_rfl

theorem agg_cells {P : Program} {w : World} {r : Reach} {base : Nat} {t : TypeId} {v : Value} (hu : ((match P.underlying t with | some (.struct _) | some (.array _ _) => true | _ => false) : Bool) = true) (h : Value.okWide P w r base t v) : ∃ cs, v = .agg cs ∧ cs.size = P.cellsOf t := by
  have h' : ∃ cs : Array Value, v = .agg cs ∧ cs.size = P.cellsOf t ∧ Row.okWide P w r base t cs := by
    unfold Value.okWide at h
    revert hu h
    cases P.underlying t with
    | none => simp
    | some u => cases u <;> simp
  obtain ⟨cs, h1, h2, _⟩ := h'
  exact ⟨cs, h1, h2⟩

theorem alike_bytes (A1 A2 : Option Addr) (n1 n2 c1 c2 : Nat) (xs : List UInt8) (w : World) (hn1 : n1 = xs.length) (hn2 : n2 = xs.length) (h1 : Vals w [] A1 (xs.map B)) (h2 : Vals w [] A2 (xs.map B)) (hm : xs.length ≤ 256) :
    Calls Try.prog 13 #[.slice A1 n1 c1, .slice A2 n2 c2] w fun e w' => e = .returned (.bool true) ∧ Kept [] w w' :=
  (base.bytes_any A1 A2 n1 n2 c1 c2 xs xs w hn1.symm hn2.symm h1 h2 (by omega)).mono fun e w' ⟨h, k, hw⟩ => ⟨by rw [h]; simp, by subst hw; exact (Kept.refl [] w).drewN k⟩

theorem heldT {W9 W W' : World} {s cq : Nat} {R : Rg} {X : Sl} {D : Dv} (h : Kept [] W9 W ∧ C14 W s R X ∧ W.cell? ⟨cq, 0, none⟩ = some (.int .i64 D.b) ∧ W.cell? ⟨cq, 1, none⟩ = some (.int .i64 (D.n : Int)) ∧ W.cell? ⟨cq, 2, none⟩ = some (.int .i64 D.z)) (hk : Kept [] W W') : Kept [] W9 W' ∧ C14 W' s R X ∧ W'.cell? ⟨cq, 0, none⟩ = some (.int .i64 D.b) ∧ W'.cell? ⟨cq, 1, none⟩ = some (.int .i64 (D.n : Int)) ∧ W'.cell? ⟨cq, 2, none⟩ = some (.int .i64 D.z) :=
  ⟨h.1.trans hk (by simp), ⟨hk.cell h.2.1.c0 (by simp), hk.cell h.2.1.c1 (by simp), hk.cell h.2.1.c2 (by simp), hk.cell h.2.1.c3 (by simp), hk.cell h.2.1.c4 (by simp), hk.cell h.2.1.c5 (by simp), hk.cell h.2.1.c6 (by simp), hk.cell h.2.1.c7 (by simp), hk.cell h.2.1.c8 (by simp), hk.cell h.2.1.c9 (by simp), hk.cell h.2.1.c10 (by simp), hk.cell h.2.1.c11 (by simp), hk.cell h.2.1.c12 (by simp), hk.cell h.2.1.c13 (by simp)⟩, hk.cell h.2.2.1 (by simp), hk.cell h.2.2.2.1 (by simp), hk.cell h.2.2.2.2 (by simp)⟩

set_option maxRecDepth 100000 in
set_option maxHeartbeats 4000000 in
theorem walk_big (x y z : Int) (R : Rg) (X : Sl) (w : World) (h : 50 < X.a ∨ X.a ≤ 50 ∧ 50 < X.o ∨ X.a ≤ 50 ∧ X.o ≤ 50 ∧ 100 < X.u) :
    Calls Try.prog 3 #[.agg #[.int .i64 x, .int .i64 y, .int .i64 z], R.val X] w fun e w' => e = .returned (.bool true) ∧ Below w.heap.size w w' := by
  obtain ⟨w0, hw0⟩ : ∃ w0, w.alloc (.cells #[.int .i64 x, .int .i64 y, .int .i64 z] 22) = w0 := ⟨_, rfl⟩
  have hk0 : Kept [] w w0 := by rw [← hw0]; exact (Kept.refl [] w).alloc _
  have hb0 : Blk w0 w.heap.size 22 #[.int .i64 x, .int .i64 y, .int .i64 z] := by rw [← hw0]; exact Blk.new w _ _
  obtain ⟨q, hq⟩ : ∃ q, w.heap.size = q := ⟨_, rfl⟩
  rw [hq] at hb0
  obtain ⟨w1, hw1⟩ : ∃ w1, w0.alloc (.cells (R.cells X) 28) = w1 := ⟨_, rfl⟩
  have hk1 : Kept [] w0 w1 := by rw [← hw1]; exact (Kept.refl [] w0).alloc _
  have hb1 : Blk w1 w0.heap.size 28 (R.cells X) := by rw [← hw1]; exact Blk.new w0 _ _
  obtain ⟨s, hs⟩ : ∃ s, w0.heap.size = s := ⟨_, rfl⟩
  rw [hs] at hb1
  unfold Rg.cells at hw1
  have HK_0 := hide (hk0.trans hk1 (by simp))
  have HA_0 := hide (hk1.blk hb0 (by simp))
  have HS_0 := hide hb1
  have a00 : w1.cell? ⟨q, 0, none⟩ = some (.int .i64 x) := HA_0.out.cell 0
  have a01 : w1.cell? ⟨q, 1, none⟩ = some (.int .i64 y) := HA_0.out.cell 1
  have a02 : w1.cell? ⟨q, 2, none⟩ = some (.int .i64 z) := HA_0.out.cell 2
  obtain ⟨kc0, kc1, kc2, kc3, kc4, kc5, kc6, kc7, kc8, kc9, kc10, kc11, kc12, kc13⟩ := cell14 HS_0.out
  clear hk0 hk1 hb0 hb1
  unfold Rg.val
  rcases h with g1 | ⟨h1, g2⟩ | ⟨h1, h2, g3⟩
  · have q1 : (50 : Int) < X.a := by omega
    clear g1
    go_enter Try.func3, Try.ntmps3
    go_wp2_with fail
    refine (awake_any _).mono ?_
    rintro e w2 ⟨rfl, hk⟩
    have HK2 := hide (HK_0.out.trans hk (by simp))
    clear hk
    go_wp2
    go_ret
    exact ⟨rfl, HK2.out.below (by simp)⟩
  · have q1 : ¬ (50 : Int) < X.a := by omega
    have q2 : (50 : Int) < X.o := by omega
    clear h1 g2
    go_enter Try.func3, Try.ntmps3
    go_wp2_with fail
    refine (awake_any _).mono ?_
    rintro e w2 ⟨rfl, hk⟩
    have HK2 := hide (HK_0.out.trans hk (by simp))
    clear hk
    go_wp2
    go_ret
    exact ⟨rfl, HK2.out.below (by simp)⟩
  · have q1 : ¬ (50 : Int) < X.a := by omega
    have q2 : ¬ (50 : Int) < X.o := by omega
    have q3 : (100 : Int) < X.u := by omega
    clear h1 h2 g3
    go_enter Try.func3, Try.ntmps3
    go_wp2_with fail
    refine (awake_any _).mono ?_
    rintro e w2 ⟨rfl, hk⟩
    have HK2 := hide (HK_0.out.trans hk (by simp))
    clear hk
    go_wp2
    go_ret
    exact ⟨rfl, HK2.out.below (by simp)⟩

set_option maxRecDepth 100000 in
set_option maxHeartbeats 4000000 in
theorem walk_in (x y z : Int) (R : Rg) (X : Sl) (w : World) (h1 : X.a ≤ 50) (h2 : X.o ≤ 50) (h3 : X.u ≤ 100) (hin : RgIn w [] X R) :
    Calls Try.prog 3 #[.agg #[.int .i64 x, .int .i64 y, .int .i64 z], R.val X] w fun e w' => e = .returned (.bool true) ∧ Below w.heap.size w w' := by
  have HXS : Hid X.small := hide ⟨by omega, by omega, by omega⟩
  have q1 : ¬ (50 : Int) < X.a := by omega
  have q2 : ¬ (50 : Int) < X.o := by omega
  have q3 : ¬ (100 : Int) < X.u := by omega
  clear h1 h2 h3
  obtain ⟨D, hd⟩ : ∃ D, dvOf x y z = D := ⟨_, rfl⟩
  have HD : Hid D.ok := hide (by rw [← hd]; exact dvOf_ok x y z)
  have HDD := hide hd
  obtain ⟨xs, er, hx⟩ : ∃ xs er, rg.encode D R = (xs, er) := ⟨_, _, rfl⟩
  have HXL : Hid (xs.length ≤ 256) := hide (by
    have hr := HD.out.bd
    unfold rg.encode at hx
    split at hx
    · next hm =>
      rw [Prod.mk.injEq] at hx
      rw [← hx.1, Rg.bytes_len HD.out ((R.may_iff D).1 hm)]
      omega
    · rw [Prod.mk.injEq] at hx
      rw [← hx.1]
      simp)
  have HX := hide hx
  obtain ⟨bm, hbm⟩ : ∃ bm, R.may D = bm := ⟨_, rfl⟩
  have HM := hide hbm
  clear hd hx hbm
  obtain ⟨w0, hw0⟩ : ∃ w0, w.alloc (.cells #[.int .i64 x, .int .i64 y, .int .i64 z] 22) = w0 := ⟨_, rfl⟩
  have hk0 : Kept [] w w0 := by rw [← hw0]; exact (Kept.refl [] w).alloc _
  have hb0 : Blk w0 w.heap.size 22 #[.int .i64 x, .int .i64 y, .int .i64 z] := by rw [← hw0]; exact Blk.new w _ _
  obtain ⟨q, hq⟩ : ∃ q, w.heap.size = q := ⟨_, rfl⟩
  rw [hq] at hb0
  obtain ⟨w1, hw1⟩ : ∃ w1, w0.alloc (.cells (R.cells X) 28) = w1 := ⟨_, rfl⟩
  have hk1 : Kept [] w0 w1 := by rw [← hw1]; exact (Kept.refl [] w0).alloc _
  have hb1 : Blk w1 w0.heap.size 28 (R.cells X) := by rw [← hw1]; exact Blk.new w0 _ _
  obtain ⟨s, hs⟩ : ∃ s, w0.heap.size = s := ⟨_, rfl⟩
  rw [hs] at hb1
  unfold Rg.cells at hw1
  have HK_0 := hide (hk0.trans hk1 (by simp))
  have HA_0 := hide (hk1.blk hb0 (by simp))
  have HS_0 := hide hb1
  have a00 : w1.cell? ⟨q, 0, none⟩ = some (.int .i64 x) := HA_0.out.cell 0
  have a01 : w1.cell? ⟨q, 1, none⟩ = some (.int .i64 y) := HA_0.out.cell 1
  have a02 : w1.cell? ⟨q, 2, none⟩ = some (.int .i64 z) := HA_0.out.cell 2
  obtain ⟨kc0, kc1, kc2, kc3, kc4, kc5, kc6, kc7, kc8, kc9, kc10, kc11, kc12, kc13⟩ := cell14 HS_0.out
  have HI_0 := hide ((hin.kept hk0 (by simp)).kept hk1 (by simp))
  clear hk0 hk1 hb0 hb1 hin
  unfold Rg.val
  go_enter Try.func3, Try.ntmps3
  go_wp2_with fail
  refine (kept_any x y z _).mono ?_
  rintro e w2 ⟨G, rfl, hg, hG, hk⟩
  rw [HDD.out] at hg ⊢
  clear a00 a01 a02 kc0 kc1 kc2 kc3 kc4 kc5 kc6 kc7 kc8 kc9 kc10 kc11 kc12 kc13 hw0 hw1 hq hs
  have HK_1 := hide (HK_0.out.trans hk (by simp))
  have HS_1 := hide (hk.blk HS_0.out (by simp))
  have HI_1 := hide (HI_0.out.kept hk (by simp))
  clear HK_0 HS_0 HI_0 HA_0
  have HG_1 := hide (hg)
  clear hg hG hk q1 q2 q3
  obtain ⟨w3, hw3⟩ : ∃ w3, w2.alloc (.cells #[.int .i64 D.b, .int .i64 (D.n : Int), .int .i64 D.z] 31) = w3 := ⟨_, rfl⟩
  have hkw3 : Kept [] w2 w3 := by rw [← hw3]; exact (Kept.refl [] w2).alloc _
  have hbw3 : Blk w3 w2.heap.size 31 #[.int .i64 D.b, .int .i64 (D.n : Int), .int .i64 D.z] := by rw [← hw3]; exact Blk.new w2 _ _
  obtain ⟨cq, hcq⟩ : ∃ cq, w2.heap.size = cq := ⟨_, rfl⟩
  rw [hcq] at hbw3
  have HK_2 := hide (HK_1.out.trans hkw3 (by simp))
  have HS_2 := hide (hkw3.blk HS_1.out (by simp))
  have HI_2 := hide (HI_1.out.kept hkw3 (by simp))
  have HG_2 := hide (HG_1.out.kept hkw3)
  clear HK_1 HS_1 HI_1 HG_1
  have HQ_2 := hide (hbw3)
  clear hkw3 hbw3
  obtain ⟨kc0, kc1, kc2, kc3, kc4, kc5, kc6, kc7, kc8, kc9, kc10, kc11, kc12, kc13⟩ := cell14 HS_2.out
  go_wp2_with fail
  refine (encode_any G D R X _ HG_2.out HI_2.out HXS.out).mono ?_
  rintro e w4 ⟨A2, n2, c2, rfl, hn, hnb, hk⟩
  rw [HX.out] at hn hnb ⊢
  dsimp only at hn hnb ⊢
  have HN2 := hide hn
  have hv := hnb.vals (S := []) (by simp)
  clear kc0 kc1 kc2 kc3 kc4 kc5 kc6 kc7 kc8 kc9 kc10 kc11 kc12 kc13 hw3
  have HK_3 := hide (HK_2.out.trans hk (by simp))
  have HS_3 := hide (hk.blk HS_2.out (by simp))
  have HI_3 := hide (HI_2.out.kept hk (by simp))
  have HG_3 := hide (HG_2.out.kept hk)
  have HQ_3 := hide (hk.blk HQ_2.out (by simp))
  clear HK_2 HS_2 HI_2 HG_2 HQ_2
  have HV_3 := hide (hv)
  clear hk hn hnb hv
  obtain ⟨kc0, kc1, kc2, kc3, kc4, kc5, kc6, kc7, kc8, kc9, kc10, kc11, kc12, kc13⟩ := cell14 HS_3.out
  obtain ⟨kq0, kq1, kq2⟩ := cfg_cells HQ_3.out
  go_wp2_with fail
  refine (rbytes_any D HD.out R X _ HI_3.out HXS.out).mono ?_
  rintro e W9 ⟨A3, n3, c3, rfl, hn, hv, hk⟩
  rw [HX.out] at hn hv ⊢
  dsimp only at hn hv ⊢
  have HN3 := hide hn
  clear kc0 kc1 kc2 kc3 kc4 kc5 kc6 kc7 kc8 kc9 kc10 kc11 kc12 kc13 kq0 kq1 kq2
  have HK_4 := hide (HK_3.out.trans hk (by simp))
  have HS_4 := hide (hk.blk HS_3.out (by simp))
  have HI_4 := hide (HI_3.out.kept hk (by simp))
  have HG_4 := hide (HG_3.out.kept hk)
  have HQ_4 := hide (hk.blk HQ_3.out (by simp))
  have HV_4 := hide (HV_3.out.kept hk (by simp))
  clear HK_3 HS_3 HI_3 HG_3 HQ_3 HV_3
  have HU_4 := hide (hv)
  clear hk hn hv
  have HS9 := hide (show Kept [] W9 W9 ∧ C14 W9 s R X ∧ W9.cell? ⟨cq, 0, none⟩ = some (.int .i64 D.b) ∧ W9.cell? ⟨cq, 1, none⟩ = some (.int .i64 (D.n : Int)) ∧ W9.cell? ⟨cq, 2, none⟩ = some (.int .i64 D.z) from ⟨Kept.refl [] W9, cell14 HS_4.out, cfg_cells HQ_4.out⟩)
  go_wp2
  refine wp_region_noPanic ?_
  refine wp_region_held_drew (S := fun W => Kept [] W9 W ∧ C14 W s R X ∧ W.cell? ⟨cq, 0, none⟩ = some (.int .i64 D.b) ∧ W.cell? ⟨cq, 1, none⟩ = some (.int .i64 (D.n : Int)) ∧ W.cell? ⟨cq, 2, none⟩ = some (.int .i64 D.z)) (by kernel_rfl) (by exact ⟨(Kept.refl [] W9).drew, HS9.out.2.1.drew, HS9.out.2.2⟩) (fun hHeld => ?_)
  refine wpAnyH_take (i := 0) (oi := ⟨some 49, _, _, _, _, _⟩) (v := ?v1) rfl (by kernel_rfl) (by kernel_rfl) (by kernel_rfl) (fun _ _ _ h => h) (Or.inl ⟨by rfl, ?hy1⟩) (by assumption) ?rest1
  case hy1 => (intro W hSw; obtain ⟨_, ⟨c0, c1, c2, c3, c4, c5, c6, c7, c8, c9, c10, c11, c12, c13⟩, p0, p1, p2⟩ := hSw; go_simp; try with_reducible rfl)
  try simp only [Act.put, List.setIfInBounds_toArray, List.set_cons_zero, List.set_cons_succ]
  refine wpAnyH_take (i := 1) (oi := ⟨some 50, _, _, _, _, _⟩) (v := ?v2) rfl (by kernel_rfl) (by kernel_rfl) (by kernel_rfl) (fun _ _ _ h => h) (Or.inl ⟨by rfl, ?hy2⟩) (by assumption) ?rest2
  case hy2 => (intro W hSw; obtain ⟨_, ⟨c0, c1, c2, c3, c4, c5, c6, c7, c8, c9, c10, c11, c12, c13⟩, p0, p1, p2⟩ := hSw; go_simp; try with_reducible rfl)
  try simp only [Act.put, List.setIfInBounds_toArray, List.set_cons_zero, List.set_cons_succ]
  refine wpAnyH_take (i := 3) (oi := ⟨some 52, _, _, _, _, _⟩) (v := ?v3) rfl (by kernel_rfl) (by kernel_rfl) (by kernel_rfl) (fun _ _ _ h => h) (Or.inl ⟨by rfl, ?hy3⟩) (by assumption) ?rest3
  case hy3 => (intro W hSw; obtain ⟨_, ⟨c0, c1, c2, c3, c4, c5, c6, c7, c8, c9, c10, c11, c12, c13⟩, p0, p1, p2⟩ := hSw; go_simp; try with_reducible rfl)
  try simp only [Act.put, List.setIfInBounds_toArray, List.set_cons_zero, List.set_cons_succ]
  refine wpAnyH_take (i := 4) (oi := ⟨some 53, _, _, _, _, _⟩) (v := ?v4) rfl (by kernel_rfl) (by kernel_rfl) (by kernel_rfl) (fun _ _ _ h => h) (Or.inl ⟨by rfl, ?hy4⟩) (by assumption) ?rest4
  case hy4 => (intro W hSw; obtain ⟨_, ⟨c0, c1, c2, c3, c4, c5, c6, c7, c8, c9, c10, c11, c12, c13⟩, p0, p1, p2⟩ := hSw; go_simp; try with_reducible rfl)
  try simp only [Act.put, List.setIfInBounds_toArray, List.set_cons_zero, List.set_cons_succ]
  refine held_one (i := 2) (o := ⟨some 51, _, _, _, _, _⟩) rfl (by kernel_rfl) (by rfl) (fun K hK => ?_)
  go_simp
  refine (may_any G D R X _ (HG_4.out.kept hHeld.1) (HI_4.out.kept hHeld.1 (by simp)) HXS.out).mono ?_
  rintro e y2 ⟨rfl, hk⟩
  rw [HM.out]
  refine hK.out _ _ (by exact heldT hHeld hk) (fun hHeld => ?_)
  clear hK K
  try simp only [Act.put, List.setIfInBounds_toArray, List.set_cons_zero, List.set_cons_succ]
  refine held_one (i := 5) (o := ⟨some 54, _, _, _, _, _⟩) rfl (by kernel_rfl) (by rfl) (fun K hK => ?_)
  go_simp
  refine (rmay_any D HD.out R X _ (HI_4.out.kept hHeld.1 (by simp)) HXS.out).mono ?_
  rintro e y5 ⟨rfl, hk⟩
  rw [HM.out]
  refine hK.out _ _ (by exact heldT hHeld hk) (fun hHeld => ?_)
  clear hK K
  try simp only [Act.put, List.setIfInBounds_toArray, List.set_cons_zero, List.set_cons_succ]
  refine wpAnyH_take (i := 6) (oi := ⟨some 55, _, _, _, _, _⟩) (v := ?v5) rfl (by kernel_rfl) (by kernel_rfl) (by kernel_rfl) (fun _ _ _ h => h) (Or.inl ⟨by rfl, ?hy5⟩) (by assumption) ?rest5
  case hy5 => (intro W hSw; obtain ⟨_, ⟨c0, c1, c2, c3, c4, c5, c6, c7, c8, c9, c10, c11, c12, c13⟩, p0, p1, p2⟩ := hSw; go_simp; try with_reducible rfl)
  try simp only [Act.put, List.setIfInBounds_toArray, List.set_cons_zero, List.set_cons_succ]
  refine wpAnyH_take (i := 7) (oi := ⟨some 56, _, _, _, _, _⟩) (v := ?v6) rfl (by kernel_rfl) (by kernel_rfl) (by kernel_rfl) (fun _ _ _ h => h) (Or.inl ⟨by rfl, ?hy6⟩) (by assumption) ?rest6
  case hy6 => (intro W hSw; obtain ⟨_, ⟨c0, c1, c2, c3, c4, c5, c6, c7, c8, c9, c10, c11, c12, c13⟩, p0, p1, p2⟩ := hSw; go_simp; try with_reducible rfl)
  try simp only [Act.put, List.setIfInBounds_toArray, List.set_cons_zero, List.set_cons_succ]
  refine wpAnyH_take (i := 8) (oi := ⟨some 57, _, _, _, _, _⟩) (v := ?v7) rfl (by kernel_rfl) (by kernel_rfl) (by kernel_rfl) (fun _ _ _ h => h) (Or.inl ⟨by rfl, ?hy7⟩) (by assumption) ?rest7
  case hy7 => (intro W hSw; obtain ⟨_, ⟨c0, c1, c2, c3, c4, c5, c6, c7, c8, c9, c10, c11, c12, c13⟩, p0, p1, p2⟩ := hSw; go_simp; try with_reducible rfl)
  try simp only [Act.put, List.setIfInBounds_toArray, List.set_cons_zero, List.set_cons_succ]
  refine wpAnyH_take (i := 9) (oi := ⟨some 58, _, _, _, _, _⟩) (v := ?v8) rfl (by kernel_rfl) (by kernel_rfl) (by kernel_rfl) (fun _ _ _ h => h) (Or.inl ⟨by rfl, ?hy8⟩) (by assumption) ?rest8
  case hy8 => (intro W hSw; obtain ⟨_, ⟨c0, c1, c2, c3, c4, c5, c6, c7, c8, c9, c10, c11, c12, c13⟩, p0, p1, p2⟩ := hSw; go_simp; try with_reducible rfl)
  try simp only [Act.put, List.setIfInBounds_toArray, List.set_cons_zero, List.set_cons_succ]
  refine wpAnyH_take (i := 10) (oi := ⟨some 59, _, _, _, _, _⟩) (v := ?v9) rfl (by kernel_rfl) (by kernel_rfl) (by kernel_rfl) (fun _ _ _ h => h) (Or.inl ⟨by rfl, ?hy9⟩) (by assumption) ?rest9
  case hy9 => (intro W hSw; obtain ⟨_, ⟨c0, c1, c2, c3, c4, c5, c6, c7, c8, c9, c10, c11, c12, c13⟩, p0, p1, p2⟩ := hSw; go_simp; try with_reducible rfl)
  try simp only [Act.put, List.setIfInBounds_toArray, List.set_cons_zero, List.set_cons_succ]
  refine wpAnyH_take (i := 11) (oi := ⟨some 60, _, _, _, _, _⟩) (v := ?v10) rfl (by kernel_rfl) (by kernel_rfl) (by kernel_rfl) (fun _ _ _ h => h) (Or.inl ⟨by rfl, ?hy10⟩) (by assumption) ?rest10
  case hy10 => (intro W hSw; obtain ⟨_, ⟨c0, c1, c2, c3, c4, c5, c6, c7, c8, c9, c10, c11, c12, c13⟩, p0, p1, p2⟩ := hSw; go_simp; try with_reducible rfl)
  try simp only [Act.put, List.setIfInBounds_toArray, List.set_cons_zero, List.set_cons_succ]
  refine wpAnyH_take (i := 12) (oi := ⟨some 61, _, _, _, _, _⟩) (v := ?v11) rfl (by kernel_rfl) (by kernel_rfl) (by kernel_rfl) (fun _ _ _ h => h) (Or.inl ⟨by rfl, ?hy11⟩) (by assumption) ?rest11
  case hy11 => (intro W hSw; obtain ⟨_, ⟨c0, c1, c2, c3, c4, c5, c6, c7, c8, c9, c10, c11, c12, c13⟩, p0, p1, p2⟩ := hSw; go_simp; try with_reducible rfl)
  try simp only [Act.put, List.setIfInBounds_toArray, List.set_cons_zero, List.set_cons_succ]
  refine wpAnyH_take (i := 13) (oi := ⟨some 62, _, _, _, _, _⟩) (v := ?v12) rfl (by kernel_rfl) (by kernel_rfl) (by kernel_rfl) (fun _ _ _ h => h) (Or.inl ⟨by rfl, ?hy12⟩) (by assumption) ?rest12
  case hy12 => (intro W hSw; obtain ⟨_, ⟨c0, c1, c2, c3, c4, c5, c6, c7, c8, c9, c10, c11, c12, c13⟩, p0, p1, p2⟩ := hSw; go_simp; try with_reducible rfl)
  try simp only [Act.put, List.setIfInBounds_toArray, List.set_cons_zero, List.set_cons_succ]
  refine wpAnyH_take (i := 14) (oi := ⟨some 63, _, _, _, _, _⟩) (v := ?v13) rfl (by kernel_rfl) (by kernel_rfl) (by kernel_rfl) (fun _ _ _ h => h) (Or.inl ⟨by rfl, ?hy13⟩) (by assumption) ?rest13
  case hy13 => (intro W hSw; obtain ⟨_, ⟨c0, c1, c2, c3, c4, c5, c6, c7, c8, c9, c10, c11, c12, c13⟩, p0, p1, p2⟩ := hSw; go_simp; try with_reducible rfl)
  try simp only [Act.put, List.setIfInBounds_toArray, List.set_cons_zero, List.set_cons_succ]
  refine held_one (i := 15) (o := ⟨some 64, _, _, _, _, _⟩) rfl (by kernel_rfl) (by rfl) (fun K hK => ?_)
  go_simp
  refine (alike_bytes A2 A3 n2 n3 c2 c3 xs _ HN2.out HN3.out (HV_4.out.kept hHeld.1 (by simp)) (HU_4.out.kept hHeld.1 (by simp)) HXL.out).mono ?_
  rintro e y15 ⟨rfl, hk⟩
  refine hK.out _ _ (by exact heldT hHeld hk) (fun hHeld => ?_)
  clear hK K
  try simp only [Act.put, List.setIfInBounds_toArray, List.set_cons_zero, List.set_cons_succ]
  refine wpAnyH_take (i := 16) (oi := ⟨some 65, _, _, _, _, _⟩) (v := ?v14) rfl (by kernel_rfl) (by kernel_rfl) (by kernel_rfl) (fun _ _ _ h => h) (Or.inl ⟨by rfl, ?hy14⟩) (by assumption) ?rest14
  case hy14 => (intro W hSw; obtain ⟨_, ⟨c0, c1, c2, c3, c4, c5, c6, c7, c8, c9, c10, c11, c12, c13⟩, p0, p1, p2⟩ := hSw; go_simp; try with_reducible rfl)
  try simp only [Act.put, List.setIfInBounds_toArray, List.set_cons_zero, List.set_cons_succ]
  refine wpAnyH_take (i := 17) (oi := ⟨some 66, _, _, _, _, _⟩) (v := ?v15) rfl (by kernel_rfl) (by kernel_rfl) (by kernel_rfl) (fun _ _ _ h => h) (Or.inl ⟨by rfl, ?hy15⟩) (by assumption) ?rest15
  case hy15 => (intro W hSw; obtain ⟨_, ⟨c0, c1, c2, c3, c4, c5, c6, c7, c8, c9, c10, c11, c12, c13⟩, p0, p1, p2⟩ := hSw; go_simp; try with_reducible rfl)
  try simp only [Act.put, List.setIfInBounds_toArray, List.set_cons_zero, List.set_cons_succ]
  refine wpAnyH_take (i := 18) (oi := ⟨some 67, _, _, _, _, _⟩) (v := ?v16) rfl (by kernel_rfl) (by kernel_rfl) (by kernel_rfl) (fun _ _ _ h => h) (Or.inl ⟨by rfl, ?hy16⟩) (by assumption) ?rest16
  case hy16 => (intro W hSw; obtain ⟨_, ⟨c0, c1, c2, c3, c4, c5, c6, c7, c8, c9, c10, c11, c12, c13⟩, p0, p1, p2⟩ := hSw; go_simp; try with_reducible rfl)
  try simp only [Act.put, List.setIfInBounds_toArray, List.set_cons_zero, List.set_cons_succ]
  refine held_one (i := 19) (o := ⟨some 68, _, _, _, _, _⟩) rfl (by kernel_rfl) (by rfl) (fun K hK => ?_)
  go_simp
  refine (may_nil R X _).mono ?_
  rintro e y19 ⟨rfl, hk⟩
  refine hK.out _ _ (by exact heldT hHeld hk) (fun hHeld => ?_)
  clear hK K
  try simp only [Act.put, List.setIfInBounds_toArray, List.set_cons_zero, List.set_cons_succ]
  refine wpAnyH_take (i := 20) (oi := ⟨some 69, _, _, _, _, _⟩) (v := ?v17) rfl (by kernel_rfl) (by kernel_rfl) (by kernel_rfl) (fun _ _ _ h => h) (Or.inl ⟨by rfl, ?hy17⟩) (by assumption) ?rest17
  case hy17 => (intro W hSw; obtain ⟨_, ⟨c0, c1, c2, c3, c4, c5, c6, c7, c8, c9, c10, c11, c12, c13⟩, p0, p1, p2⟩ := hSw; go_simp; try with_reducible rfl)
  try simp only [Act.put, List.setIfInBounds_toArray, List.set_cons_zero, List.set_cons_succ]
  refine wpAnyH_take (i := 21) (oi := ⟨some 70, _, _, _, _, _⟩) (v := ?v18) rfl (by kernel_rfl) (by kernel_rfl) (by kernel_rfl) (fun _ _ _ h => h) (Or.inl ⟨by rfl, ?hy18⟩) (by assumption) ?rest18
  case hy18 => (intro W hSw; obtain ⟨_, ⟨c0, c1, c2, c3, c4, c5, c6, c7, c8, c9, c10, c11, c12, c13⟩, p0, p1, p2⟩ := hSw; go_simp; try with_reducible rfl)
  try simp only [Act.put, List.setIfInBounds_toArray, List.set_cons_zero, List.set_cons_succ]
  refine wpAnyH_take (i := 22) (oi := ⟨some 71, _, _, _, _, _⟩) (v := ?v19) rfl (by kernel_rfl) (by kernel_rfl) (by kernel_rfl) (fun _ _ _ h => h) (Or.inl ⟨by rfl, ?hy19⟩) (by assumption) ?rest19
  case hy19 => (intro W hSw; obtain ⟨_, ⟨c0, c1, c2, c3, c4, c5, c6, c7, c8, c9, c10, c11, c12, c13⟩, p0, p1, p2⟩ := hSw; go_simp; try with_reducible rfl)
  try simp only [Act.put, List.setIfInBounds_toArray, List.set_cons_zero, List.set_cons_succ]
  refine held_one (i := 23) (o := ⟨some 72, _, _, _, _, _⟩) rfl (by kernel_rfl) (by rfl) (fun K hK => ?_)
  go_simp
  refine (awake_any _).mono ?_
  rintro e y23 ⟨rfl, hk⟩
  refine hK.out _ _ (by exact heldT hHeld hk) (fun hHeld => ?_)
  clear hK K
  try simp only [Act.put, List.setIfInBounds_toArray, List.set_cons_zero, List.set_cons_succ]
  refine wpAnyH_take (i := 24) (oi := ⟨some 73, _, _, _, _, _⟩) (v := ?v20) rfl (by kernel_rfl) (by kernel_rfl) (by kernel_rfl) (fun _ _ _ h => h) (Or.inl ⟨by rfl, ?hy20⟩) (by assumption) ?rest20
  case hy20 => (intro W hSw; obtain ⟨_, ⟨c0, c1, c2, c3, c4, c5, c6, c7, c8, c9, c10, c11, c12, c13⟩, p0, p1, p2⟩ := hSw; go_simp; try with_reducible rfl)
  try simp only [Act.put, List.setIfInBounds_toArray, List.set_cons_zero, List.set_cons_succ]
  refine wpAnyH_take (i := 25) (oi := ⟨some 4, _, _, _, _, _⟩) (v := ?v21) rfl (by kernel_rfl) (by kernel_rfl) (by kernel_rfl) (fun _ _ _ h => h) (Or.inl ⟨by rfl, ?hy21⟩) (by assumption) ?rest21
  case hy21 => (intro W hSw; obtain ⟨_, ⟨c0, c1, c2, c3, c4, c5, c6, c7, c8, c9, c10, c11, c12, c13⟩, p0, p1, p2⟩ := hSw; go_simp; try with_reducible rfl)
  try simp only [Act.put, List.setIfInBounds_toArray, List.set_cons_zero, List.set_cons_succ]
  refine wpAnyH_done (by kernel_rfl) ?_ _
  refine NoPanic.normal ?_
  have HKF := hide (HK_4.out.trans hHeld.1 (by simp))
  clear hHeld
  go_wp2
  go_ret
  exact ⟨rfl, HKF.out.below (by simp)⟩

theorem walk (x y z : Int) (R : Rg) (X : Sl) (w : World) (hin : RgIn w [] X R) :
    Calls Try.prog 3 #[.agg #[.int .i64 x, .int .i64 y, .int .i64 z], R.val X] w fun e w' => e = .returned (.bool true) ∧ Below w.heap.size w w' := by
  by_cases h1 : X.a ≤ 50
  · by_cases h2 : X.o ≤ 50
    · by_cases h3 : X.u ≤ 100
      · exact walk_in x y z R X w h1 h2 h3 hin
      · exact walk_big x y z R X w (.inr (.inr ⟨h1, h2, by omega⟩))
    · exact walk_big x y z R X w (.inr (.inl ⟨h1, by omega⟩))
  · exact walk_big x y z R X w (.inl (by omega))

/-! ### the row's step, as the guide's skeleton has it -/
set_option maxRecDepth 100000 in
theorem lifted (os : Os) (started : os.Started) (H : Type) (enc : TypeId × Value → H) :
    ReturnsInHanded {} Try.checked os 3 .any (Rows.regionTellsSpec.pre6 enc Try.prog Try.f3 Rows.regionTellsRow.domain false) (Rows.regionTellsSpec.post enc Try.prog Try.f3 false true false false) := by
  refine returnsInHanded_of_change (C := Try.checked) own started (by kernel_rfl) Try.func3
    (ChangeSpec.witness6 (enc := enc) (C := Try.checked) false ⟨#[], #[.agg #[.int .i64 0, .int .i64 0, .int .i64 0], .agg #[.int .i64 0, .int .i64 0, .int .i64 0, .int .i64 0, .int .i64 0, .int .i64 0, .int .i64 0, .int .i64 0, .int .i64 0, .int .i64 0, .int .i64 0, .slice none 0 0, .slice none 0 0, .slice none 0 0]], []⟩ 8 (by kernel_rfl) (by kernel_rfl) (by kernel_rfl) (by kernel_rfl)) ?_
  intro W base args ds gs before hval0 hW hcnd _
  have hval : ∀ (j : Nat) t v, Try.f3.params[j]? = some t → args[j]? = some v → Value.okWide Try.prog W .any base t v := hval0
  have hW' := hW
  obtain ⟨p, q, hA0, hV, rfl, hfz, hnd⟩ := hW
  have hA : DataW.TrodAll enc Try.prog W 0 (fun _ => true) true Try.f3.params.toList args.toList ds p := hA0
  rw [Try.params3] at hA hval
  obtain ⟨v0, vs0, d0, ds0, p0, q0, hargs, rfl, rfl, h0, r0⟩ := trodAll_cons hA
  obtain ⟨v1, vs1, d1, ds1, p1, q1, rfl, rfl, rfl, h1, r1⟩ := trodAll_cons r0
  obtain ⟨rfl, rfl, rfl⟩ := trodAll_nil r1
  obtain rfl : args = #[v0, v1] := by cases args; simp_all
  obtain ⟨rfl, rfl⟩ := trodVars_none hV
  have k0 := h0
  have lt0 : ∀ x ∈ p0, x.block < W.heap.size := by obtain ⟨m, hm⟩ := k0; exact DataW.trod_lt m _ _ _ hm
  obtain ⟨xs0, rfl, hl0, hx0⟩ := agg_ints (ts := List.replicate 3 3) (n := 3) (by kernel_rfl) (by kernel_rfl) (fun u hu => by rw [List.eq_of_mem_replicate hu]; exact Try.underlying3) (by kernel_rfl) (hval 0 22 v0 rfl rfl)
  obtain ⟨a0_0, a0_1, a0_2, rfl⟩ := list3 hl0
  have w0_0 := hx0 a0_0 (by simp)
  have w0_1 := hx0 a0_1 (by simp)
  have w0_2 := hx0 a0_2 (by simp)
  have k1 := h1
  have lt1 : ∀ x ∈ p1, x.block < W.heap.size := by obtain ⟨m, hm⟩ := k1; exact DataW.trod_lt m _ _ _ hm
  obtain ⟨cs1, rfl, hcs1⟩ := agg_cells (t := 28) (by kernel_rfl) (hval 1 28 v1 rfl rfl)
  obtain ⟨R, X, hcs, hin⟩ : ∃ (R : Rg) (X : Sl), cs1 = R.cells X ∧ RgIn W [] X R := by
    obtain ⟨fuel, hf⟩ := h1
    obtain ⟨R, X, e1, e2⟩ := region_of hf
    refine ⟨R, X, ?_, e2⟩
    have e1 : cs1.toList = _ := e1
    apply Array.ext'
    rw [e1]
  subst hcs
  clear hA0 hval0
  refine (walk a0_0 a0_1 a0_2 R X W hin).mono fun e W' ⟨he, bel⟩ => ?_
  subst he
  exact ⟨_, rfl, _, _, _, [], _, [], hW', trodAll_mk1 (shut_bool Try.underlying4 _), (trodAll_cons_mk (Below.trod laidOut (by kernel_rfl) (of_decide_eq_true (by kernel_rfl)) k0 bel lt0) (trodAll_cons_mk (Below.trod laidOut (by kernel_rfl) (of_decide_eq_true (by kernel_rfl)) k1 bel lt1) trodAll_mk0)), rfl, bel.frame _, fun h => by cases h⟩

theorem over : Rows.regionTellsRow.holds Try.pinned (OpenSpec.ofChange Rows.regionTellsSpec) :=
  OpenClaim.holds_of_wide 3 Try.f3 rfl rfl rfl rfl rfl rfl rfl ⟨rfl, rfl, rfl, rfl, rfl⟩ rfl rfl rfl rfl rfl (by kernel_rfl) Try.func3 (by kernel_rfl)
    (of_decide_eq_true (by kernel_rfl)) (by unfold Func.isWrapper; first | (rw [if_pos (by decide +kernel)]; kernel_rfl) | (rw [if_neg (by decide +kernel)]; exact ⟨rfl, rfl⟩))
    (fun os started H enc _ => lifted os started H enc)

/-- The statement. -/
theorem proved : Rows.RegionTellsSaid := over
#print axioms proved
end Go.Proofs.Ythacnlpdodlggaa.regionTells

