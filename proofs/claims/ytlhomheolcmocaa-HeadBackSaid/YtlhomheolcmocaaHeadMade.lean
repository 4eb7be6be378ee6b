/- The laws' made: written by tools/genhmade.py. -/
import Derived.Test.YtlhomheolcmocaaHeadAwake
import Derived.Test.YtlhomheolcmocaaHeld
namespace Go.Proofs.Ytlhomheolcmocaa.hd
open Go.RowKit Go.Proofs.Ytlhomheolcmocaa.mem Go.Proofs.Ytlhomheolcmocaa.base

set_option maxRecDepth 100000 in
set_option maxHeartbeats 1000000 in
theorem made_any (a0 a1 a2 a3 : Int) (w : World) :
    Calls Try.prog 16 #[.agg #[.int .i64 a0, .int .i64 a1, .int .i64 a2, .int .i64 a3]] w fun e w' => ∃ H : Hd, e = .returned H.val ∧ H.may = true ∧ Kept [] w w' := by
  obtain ⟨w1, hw1⟩ : ∃ w1, w.alloc (.cells #[.int .i64 a0, .int .i64 a1, .int .i64 a2, .int .i64 a3] 41) = w1 := ⟨_, rfl⟩
  have hk1 : Kept [] w w1 := by rw [← hw1]; exact (Kept.refl [] w).alloc _
  have hb1 : Blk w1 w.heap.size 41 #[.int .i64 a0, .int .i64 a1, .int .i64 a2, .int .i64 a3] := by rw [← hw1]; exact Blk.new w _ _
  obtain ⟨x0, hx0⟩ : ∃ x, a0 % 32 = x := ⟨_, rfl⟩
  obtain ⟨x1, hx1⟩ : ∃ x, a1 % 2147483647 = x := ⟨_, rfl⟩
  obtain ⟨x2, hx2⟩ : ∃ x, a2 % 2147483647 = x := ⟨_, rfl⟩
  obtain ⟨x3, hx3⟩ : ∃ x, a3 % 4294967296 = x := ⟨_, rfl⟩
  have HM : Hid (Hd.may ⟨x0, 1 + x1, 1 + x2, x3⟩ = true) := hide ((Hd.may_iff _).2 ⟨by dsimp only; omega, by dsimp only; omega, by dsimp only; omega, by dsimp only; omega⟩)
  have G1 : Hid (IntKind.i64.wrap (1 + x1) = 1 + x1) := hide (IntWalk.i64_in _ (by omega))
  have G2 : Hid (IntKind.i64.wrap (1 + x2) = 1 + x2) := hide (IntWalk.i64_in _ (by omega))
  have HX0 := hide hx0
  have HX1 := hide hx1
  have HX2 := hide hx2
  have HX3 := hide hx3
  clear hx0 hx1 hx2 hx3
  obtain ⟨a, ha⟩ : ∃ a, w.heap.size = a := ⟨_, rfl⟩
  rw [ha] at hb1
  have hl := hb1.lt
  have hk2 : Kept [] w1 (w1.alloc (.cells Hd.zero.cells 23)) := (Kept.refl [] w1).alloc _
  have hbb := Blk.new w1 23 Hd.zero.cells
  obtain ⟨g, hg⟩ : ∃ g, w1.heap.size = g := ⟨_, rfl⟩
  rw [hg] at hbb
  have HG : Hid (w.heap.size ≤ g) := hide (by omega)
  have hga : a ∉ [g] := by simp; omega
  obtain ⟨w2, hw2⟩ : ∃ w2, w1.alloc (.cells Hd.zero.cells 23) = w2 := ⟨_, rfl⟩
  rw [hw2] at hk2 hbb
  have HK2 := hide (hk1.trans hk2 (by simp))
  have HB2 := hide hbb
  have hb2 := hk2.blk hb1 (by simp)
  have c0 : w2.cell? ⟨a, 0, none⟩ = some (.int .i64 a0) := hb2.cell 0
  have c1 : w2.cell? ⟨a, 1, none⟩ = some (.int .i64 a1) := hb2.cell 1
  have c2 : w2.cell? ⟨a, 2, none⟩ = some (.int .i64 a2) := hb2.cell 2
  have c3 : w2.cell? ⟨a, 3, none⟩ = some (.int .i64 a3) := hb2.cell 3
  unfold Hd.cells Hd.zero at hw2
  dsimp only at hw2
  clear hb1 hk1 hk2 hbb hb2 hl
  go_enter Try.func16, Try.ntmps16
  go_wp2_with fail
  clear hw1 hw2
  refine wp_region_noPanic ?_
  refine wp_region_held_drew (S := fun W => Kept [g] w2 W ∧ W.cell? ⟨a, 0, none⟩ = some (.int .i64 a0) ∧ W.cell? ⟨a, 1, none⟩ = some (.int .i64 a1) ∧ W.cell? ⟨a, 2, none⟩ = some (.int .i64 a2) ∧ W.cell? ⟨a, 3, none⟩ = some (.int .i64 a3)) (by kernel_rfl) (by exact ⟨(Kept.refl _ w2).drew, c0, c1, c2, c3⟩) (fun hHeld => ?_)
  refine wpAnyH_take (i := 0) (oi := ⟨some 3, _, _, _, _, _⟩) (v := ?v1) rfl (by kernel_rfl) (by kernel_rfl) (by kernel_rfl) (fun _ _ _ h => h) (Or.inl ⟨by rfl, ?hy1⟩) (by assumption) ?rest1
  case hy1 => (intro W hSw; (try dsimp only at hSw); go_simp; try with_reducible rfl)
  try simp only [Act.put, List.setIfInBounds_toArray, List.set_cons_zero, List.set_cons_succ]
  refine wpAnyH_take (i := 1) (oi := ⟨some 4, _, _, _, _, _⟩) (v := ?v2) rfl (by kernel_rfl) (by kernel_rfl) (by kernel_rfl) (fun _ _ _ h => h) (Or.inl ⟨by rfl, ?hy2⟩) (by assumption) ?rest2
  case hy2 => (intro W hSw; (try dsimp only at hSw); go_simp; try with_reducible rfl)
  try simp only [Act.put, List.setIfInBounds_toArray, List.set_cons_zero, List.set_cons_succ]
  refine wpAnyH_take (i := 3) (oi := ⟨some 6, _, _, _, _, _⟩) (v := ?v3) rfl (by kernel_rfl) (by kernel_rfl) (by kernel_rfl) (fun _ _ _ h => h) (Or.inl ⟨by rfl, ?hy3⟩) (by assumption) ?rest3
  case hy3 => (intro W hSw; (try dsimp only at hSw); go_simp; try with_reducible rfl)
  try simp only [Act.put, List.setIfInBounds_toArray, List.set_cons_zero, List.set_cons_succ]
  refine wpAnyH_take (i := 4) (oi := ⟨some 7, _, _, _, _, _⟩) (v := ?v4) rfl (by kernel_rfl) (by kernel_rfl) (by kernel_rfl) (fun _ _ _ h => h) (Or.inl ⟨by rfl, ?hy4⟩) (by assumption) ?rest4
  case hy4 => (intro W hSw; (try dsimp only at hSw); go_simp; try with_reducible rfl)
  try simp only [Act.put, List.setIfInBounds_toArray, List.set_cons_zero, List.set_cons_succ]
  refine wpAnyH_take (i := 7) (oi := ⟨some 10, _, _, _, _, _⟩) (v := ?v5) rfl (by kernel_rfl) (by kernel_rfl) (by kernel_rfl) (fun _ _ _ h => h) (Or.inl ⟨by rfl, ?hy5⟩) (by assumption) ?rest5
  case hy5 => (intro W hSw; (try dsimp only at hSw); go_simp; try with_reducible rfl)
  try simp only [Act.put, List.setIfInBounds_toArray, List.set_cons_zero, List.set_cons_succ]
  refine wpAnyH_take (i := 8) (oi := ⟨some 11, _, _, _, _, _⟩) (v := ?v6) rfl (by kernel_rfl) (by kernel_rfl) (by kernel_rfl) (fun _ _ _ h => h) (Or.inl ⟨by rfl, ?hy6⟩) (by assumption) ?rest6
  case hy6 => (intro W hSw; (try dsimp only at hSw); go_simp; try with_reducible rfl)
  try simp only [Act.put, List.setIfInBounds_toArray, List.set_cons_zero, List.set_cons_succ]
  refine wpAnyH_take (i := 11) (oi := ⟨some 14, _, _, _, _, _⟩) (v := ?v7) rfl (by kernel_rfl) (by kernel_rfl) (by kernel_rfl) (fun _ _ _ h => h) (Or.inl ⟨by rfl, ?hy7⟩) (by assumption) ?rest7
  case hy7 => (intro W hSw; (try dsimp only at hSw); go_simp; try with_reducible rfl)
  try simp only [Act.put, List.setIfInBounds_toArray, List.set_cons_zero, List.set_cons_succ]
  refine wpAnyH_take (i := 12) (oi := ⟨some 15, _, _, _, _, _⟩) (v := ?v8) rfl (by kernel_rfl) (by kernel_rfl) (by kernel_rfl) (fun _ _ _ h => h) (Or.inl ⟨by rfl, ?hy8⟩) (by assumption) ?rest8
  case hy8 => (intro W hSw; (try dsimp only at hSw); go_simp; try with_reducible rfl)
  try simp only [Act.put, List.setIfInBounds_toArray, List.set_cons_zero, List.set_cons_succ]
  refine held_one (i := 2) (o := ⟨some 5, _, _, _, _, _⟩) rfl (by kernel_rfl) (by rfl) (fun K hK => ?_)
  go_simp
  refine (round_any a0 32 _ (by omega) (by omega)).mono ?_
  rintro e w3 ⟨rfl, rfl⟩
  rw [HX0.out]
  refine hK.out _ _ (by exact hHeld) (fun hHeld => ?_)
  clear hK K
  try simp only [Act.put, List.setIfInBounds_toArray, List.set_cons_zero, List.set_cons_succ]
  refine held_one (i := 5) (o := ⟨some 8, _, _, _, _, _⟩) rfl (by kernel_rfl) (by rfl) (fun K hK => ?_)
  go_simp
  refine (round_any a1 2147483647 _ (by omega) (by omega)).mono ?_
  rintro e w3 ⟨rfl, rfl⟩
  rw [HX1.out]
  refine hK.out _ _ (by exact hHeld) (fun hHeld => ?_)
  clear hK K
  try simp only [Act.put, List.setIfInBounds_toArray, List.set_cons_zero, List.set_cons_succ]
  refine wpAnyH_take (i := 6) (oi := ⟨some 9, _, _, _, _, _⟩) (v := ?v9) rfl (by kernel_rfl) (by kernel_rfl) (by kernel_rfl) (fun _ _ _ h => h) (Or.inl ⟨by rfl, ?hy9⟩) (by assumption) ?rest9
  case hy9 => (intro W hSw; (try dsimp only at hSw); go_simp; try with_reducible rfl)
  try simp only [Act.put, List.setIfInBounds_toArray, List.set_cons_zero, List.set_cons_succ]
  refine held_one (i := 9) (o := ⟨some 12, _, _, _, _, _⟩) rfl (by kernel_rfl) (by rfl) (fun K hK => ?_)
  go_simp
  refine (round_any a2 2147483647 _ (by omega) (by omega)).mono ?_
  rintro e w3 ⟨rfl, rfl⟩
  rw [HX2.out]
  refine hK.out _ _ (by exact hHeld) (fun hHeld => ?_)
  clear hK K
  try simp only [Act.put, List.setIfInBounds_toArray, List.set_cons_zero, List.set_cons_succ]
  refine wpAnyH_take (i := 10) (oi := ⟨some 13, _, _, _, _, _⟩) (v := ?v10) rfl (by kernel_rfl) (by kernel_rfl) (by kernel_rfl) (fun _ _ _ h => h) (Or.inl ⟨by rfl, ?hy10⟩) (by assumption) ?rest10
  case hy10 => (intro W hSw; (try dsimp only at hSw); go_simp; try with_reducible rfl)
  try simp only [Act.put, List.setIfInBounds_toArray, List.set_cons_zero, List.set_cons_succ]
  refine held_one (i := 13) (o := ⟨some 16, _, _, _, _, _⟩) rfl (by kernel_rfl) (by rfl) (fun K hK => ?_)
  go_simp
  refine (round_any a3 4294967296 _ (by omega) (by omega)).mono ?_
  rintro e w3 ⟨rfl, rfl⟩
  rw [HX3.out]
  refine hK.out _ _ (by exact hHeld) (fun hHeld => ?_)
  clear hK K
  try simp only [Act.put, List.setIfInBounds_toArray, List.set_cons_zero, List.set_cons_succ]
  refine wpAnyH_take (i := 14) (oi := ⟨some 17, _, _, _, _, _⟩) (v := ?v11) rfl (by kernel_rfl) (by kernel_rfl) (by kernel_rfl) (fun _ _ _ h => h) (Or.inl ⟨by rfl, ?hy11⟩) (by assumption) ?rest11
  case hy11 => (intro W hSw; (try dsimp only at hSw); go_simp; try with_reducible rfl)
  try simp only [Act.put, List.setIfInBounds_toArray, List.set_cons_zero, List.set_cons_succ]
  refine held_one (i := 15) (o := ⟨none, _, _, _, _, _⟩) rfl (by kernel_rfl) (by rfl) (fun K hK => ?_)
  have hb2 := HB2.out
  have f0 := hb2.frozen 0
  have f1 := hb2.frozen 1
  have f2 := hb2.frozen 2
  have f3 := hb2.frozen 3
  obtain ⟨d0, d1, d2, d3⟩ := Hd.cell_at hb2
  have hbw := Hd.put_at x0 (1 + x1) (1 + x2) x3 hb2
  have hkw := Hd.put_kept (g := g) (S := [g]) x0 (1 + x1) (1 + x2) x3 (Kept.refl [g] w2) (.inl (by simp))
  rw [G1.out, G2.out]
  go_simp
  rw [put4_eq]
  generalize put4 w2 g x0 (1 + x1) (1 + x2) x3 = w3 at hbw hkw ⊢
  refine hK.out _ _ (by exact ⟨hkw.drew, hkw.cell c0 hga, hkw.cell c1 hga, hkw.cell c2 hga, hkw.cell c3 hga⟩) (fun hHeld => ?_)
  clear hK K
  try simp only [Act.put, List.setIfInBounds_toArray, List.set_cons_zero, List.set_cons_succ]
  refine wpAnyH_done (by kernel_rfl) ?_ _
  refine NoPanic.normal ?_
  obtain ⟨t0, t1, t2, t3⟩ := Hd.cell_at hbw
  have HK3 := hide (HK2.out.trans hkw.drew (by simp; exact HG.out))
  go_wp2
  refine bodyPost_ret (v := Hd.val ⟨x0, 1 + x1, 1 + x2, x3⟩) ?_ rfl ⟨⟨x0, 1 + x1, 1 + x2, x3⟩, rfl, HM.out, HK3.out⟩
  simp [results, Try.results16, go_sem, t0, t1, t2, t3, Hd.val]
end Go.Proofs.Ytlhomheolcmocaa.hd
