/- The reference's image: Clean, Load, NewImage. -/
import Derived.Test.YtfeepmahipecpaaImageRefC
import Derived.Test.YtfeepmahipecpaaHeldX
import Derived.Test.YtfeepmahipecpaaPagedSmall
import Derived.Deep.CutRange
import Derived.Deep.CutBlock
import Derived.StillTailTactics
namespace Go.Proofs.Ytfeepmahipecpaa.im
set_option linter.unusedSimpArgs false
set_option linter.unusedVariables false
open Go.RowKit Go.Proofs.Ytfeepmahipecpaa.mem Go.Proofs.Ytfeepmahipecpaa.base Go.Proofs.Ytfeepmahipecpaa.pd Go.Proofs.Ytfeepmahipecpaa.owns
section
variable {w w' : World} {p V U D E c : Nat} {M M' : Im}
theorem RI.fresh1 {D2 : Nat} (h : RI w p V U D E c M) (hB : Blk w D2 4 (bv (List.replicate M.b.d.length false)).toArray) (hD : ∀ y ∈ [p, V, U, D, E], y < D2) : RI (w.setCell ⟨p, 2, none⟩ (.slice (some ⟨D2, 0, none⟩) M.b.d.length M.b.d.length)) p V U D2 E c ⟨⟨M.b.l, List.replicate M.b.d.length false⟩, M.o⟩ ∧ Kept [p] w (w.setCell ⟨p, 2, none⟩ (.slice (some ⟨D2, 0, none⟩) M.b.d.length M.b.d.length)) := by
  obtain ⟨⟨a1, a2, a3, a4⟩, ⟨b1, b2, b3⟩, ⟨c1, c2⟩, d1⟩ := h.ne
  have k : Kept [p] w (w.setCell ⟨p, 2, none⟩ (.slice (some ⟨D2, 0, none⟩) M.b.d.length M.b.d.length)) := (Kept.refl _ w).set_ (.inl (by simp)) 2 _
  have hp := hD p (by simp)
  have hV := hD V (by simp)
  have hU := hD U (by simp)
  have hE := hD E (by simp)
  refine ⟨⟨?_, h.base.kept k (by simp; exact fun e => a1 e.symm), h.over.kept k (by simp; exact fun e => a2 e.symm), k.blk hB (by simp; omega), k.blk h.e (by simp; exact fun e => a4 e.symm), h.len, by simp; exact h.dlen, by simp; exact h.pg, h.small, h.cap, ?_⟩, k⟩
  · have := h.box.set_ 2 (.slice (some ⟨D2, 0, none⟩) M.b.d.length M.b.d.length)
    simpa using this
  · simp only [List.nodup_cons, List.mem_cons, List.not_mem_nil, or_false, not_or]
    exact ⟨⟨a1, a2, by omega, a4⟩, ⟨b1, by omega, b3⟩, ⟨by omega, c2⟩, by omega, by simp⟩
theorem RI.fresh2 {E2 : Nat} (h : RI w p V U D E c M) (hB : Blk w E2 4 (bv (List.replicate M.b.d.length false)).toArray) (hE : ∀ y ∈ [p, V, U, D, E], y < E2) : RI (w.setCell ⟨p, 3, none⟩ (.slice (some ⟨E2, 0, none⟩) M.b.d.length M.b.d.length)) p V U D E2 c ⟨M.b, ⟨M.o.l, List.replicate M.b.d.length false⟩⟩ ∧ Kept [p] w (w.setCell ⟨p, 3, none⟩ (.slice (some ⟨E2, 0, none⟩) M.b.d.length M.b.d.length)) := by
  obtain ⟨⟨a1, a2, a3, a4⟩, ⟨b1, b2, b3⟩, ⟨c1, c2⟩, d1⟩ := h.ne
  have k : Kept [p] w (w.setCell ⟨p, 3, none⟩ (.slice (some ⟨E2, 0, none⟩) M.b.d.length M.b.d.length)) := (Kept.refl _ w).set_ (.inl (by simp)) 3 _
  have hp := hE p (by simp)
  have hV := hE V (by simp)
  have hU := hE U (by simp)
  have hD := hE D (by simp)
  refine ⟨⟨?_, h.base.kept k (by simp; exact fun e => a1 e.symm), h.over.kept k (by simp; exact fun e => a2 e.symm), k.blk h.d (by simp; exact fun e => a3 e.symm), k.blk hB (by simp; omega), h.len, by simp, h.pg, h.small, h.cap, ?_⟩, k⟩
  · have := h.box.set_ 3 (.slice (some ⟨E2, 0, none⟩) M.b.d.length M.b.d.length)
    simpa using this
  · simp only [List.nodup_cons, List.mem_cons, List.not_mem_nil, or_false, not_or]
    exact ⟨⟨a1, a2, a3, by omega⟩, ⟨b1, b2, by omega⟩, ⟨c1, by omega⟩, by omega, by simp⟩
set_option maxRecDepth 100000 in
set_option maxHeartbeats 1000000 in
theorem rclean_any (h : RI w p V U D E c M) :
    Calls Try.prog 23 #[.pointer (some ⟨p, 0, none⟩)] w fun e w' => e = .returned (.tuple #[]) ∧ ∃ D' E', RI w' p V U D' E' c ⟨⟨M.b.l, List.replicate M.b.d.length false⟩, ⟨M.o.l, List.replicate M.o.d.length false⟩⟩ ∧ Kept [p] w w' ∧ w.heap.size ≤ D' ∧ w.heap.size ≤ E' := by
  have hs := h.small
  have hpg := h.pg
  have HDL := hide h.dlen
  obtain ⟨m, hm⟩ : ∃ m, M.b.d.length = m := ⟨_, rfl⟩
  have HM := hide hm
  have hm9 : m ≤ 9 := by omega
  have hmk : ∀ W : World, (Instr.makeSlice 46 (.int .i64 m) (.int .i64 m)).run Try.prog W = .ok (.slice (some ⟨W.heap.size, 0, none⟩) m m) (W.alloc (.cells (bv (List.replicate m false)).toArray 4)) := fun W => made_marks m (by omega) W
  have H := hide h
  obtain ⟨wd, hwd⟩ : ∃ wd, w.drew = wd := ⟨_, rfl⟩
  have k0 : Kept [] w wd := by rw [← hwd]; exact (Kept.refl [] w).drew
  have HD := hide (h.keep k0)
  have HKd := hide k0
  have HC0 := hide (show wd.cell? ⟨p, 2, none⟩ = some (.slice (some ⟨D, 0, none⟩) m m) from by have := HD.out.cells.2.2.1; rwa [HM.out] at this)
  clear h hm hpg hs k0
  go_enter Try.func23, Try.ntmps23
  go_wp2
  refine wp_region_noPanic ?_
  refine wp_region_held_drew (S := fun _ => True) (by kernel_rfl) (by trivial) (fun hHeld => ?_)
  refine wpAnyH_take (i := 0) (oi := ⟨some 2, _, _, _, _, _⟩) (v := ?v1) rfl (by kernel_rfl) (by kernel_rfl) (by kernel_rfl) (fun _ _ _ h => h) (Or.inl ⟨by rfl, ?hy1⟩) (by assumption) ?rest1
  case hy1 => (intro W hSw; (try dsimp only at hSw); go_simp; try with_reducible rfl)
  try simp only [Act.put, List.setIfInBounds_toArray, List.set_cons_zero, List.set_cons_succ]
  refine wpAnyH_take (i := 1) (oi := ⟨some 3, _, _, _, _, _⟩) (v := ?v2) rfl (by kernel_rfl) (by kernel_rfl) (by kernel_rfl) (fun _ _ _ h => h) (Or.inl ⟨by rfl, ?hy2⟩) (by assumption) ?rest2
  case hy2 => (intro W hSw; (try dsimp only at hSw); go_simp; try with_reducible rfl)
  try simp only [Act.put, List.setIfInBounds_toArray, List.set_cons_zero, List.set_cons_succ]
  refine wpAnyH_take (i := 2) (oi := ⟨some 4, _, _, _, _, _⟩) (v := ?v3) rfl (by kernel_rfl) (by kernel_rfl) (by kernel_rfl) (fun _ _ _ h => h) (Or.inl ⟨by rfl, ?hy3⟩) (by assumption) ?rest3
  case hy3 => (intro W hSw; (try dsimp only at hSw); go_simp; try with_reducible rfl)
  try simp only [Act.put, List.setIfInBounds_toArray, List.set_cons_zero, List.set_cons_succ]
  refine wpAnyH_take (i := 3) (oi := ⟨some 5, _, _, _, _, _⟩) (v := ?v4) rfl (by kernel_rfl) (by kernel_rfl) (by kernel_rfl) (fun _ _ _ h => h) (Or.inl ⟨by rfl, ?hy4⟩) (by assumption) ?rest4
  case hy4 => (intro W hSw; (try dsimp only at hSw); go_simp; try with_reducible rfl)
  try simp only [Act.put, List.setIfInBounds_toArray, List.set_cons_zero, List.set_cons_succ]
  refine wpAnyH_take (i := 4) (oi := ⟨some 6, _, _, _, _, _⟩) (v := ?v5) rfl (by kernel_rfl) (by kernel_rfl) (by kernel_rfl) (fun _ _ _ h => h) (Or.inl ⟨by rfl, ?hy5⟩) (by assumption) ?rest5
  case hy5 => (intro W hSw; (try dsimp only at hSw); go_simp; try with_reducible rfl)
  try simp only [Act.put, List.setIfInBounds_toArray, List.set_cons_zero, List.set_cons_succ]
  refine wpAnyH_take (i := 8) (oi := ⟨some 10, _, _, _, _, _⟩) (v := ?v6) rfl (by kernel_rfl) (by kernel_rfl) (by kernel_rfl) (fun _ _ _ h => h) (Or.inl ⟨by rfl, ?hy6⟩) (by assumption) ?rest6
  case hy6 => (intro W hSw; (try dsimp only at hSw); go_simp; try with_reducible rfl)
  try simp only [Act.put, List.setIfInBounds_toArray, List.set_cons_zero, List.set_cons_succ]
  refine wpAnyH_take (i := 9) (oi := ⟨some 11, _, _, _, _, _⟩) (v := ?v7) rfl (by kernel_rfl) (by kernel_rfl) (by kernel_rfl) (fun _ _ _ h => h) (Or.inl ⟨by rfl, ?hy7⟩) (by assumption) ?rest7
  case hy7 => (intro W hSw; (try dsimp only at hSw); go_simp; try with_reducible rfl)
  try simp only [Act.put, List.setIfInBounds_toArray, List.set_cons_zero, List.set_cons_succ]
  refine held_one (i := 5) (o := ⟨some 7, _, _, _, _, _⟩) rfl (by kernel_rfl) (by rfl) (fun K hK => ?_)
  (try rw [hwd])
  have xc0 := HC0.out
  go_simp
  refine hK.out _ _ (by exact trivial) (fun hHeld => ?_)
  clear hK K
  try simp only [Act.put, List.setIfInBounds_toArray, List.set_cons_zero, List.set_cons_succ]
  refine wpAnyH_take (i := 6) (oi := ⟨some 8, _, _, _, _, _⟩) (v := ?v8) rfl (by kernel_rfl) (by kernel_rfl) (by kernel_rfl) (fun _ _ _ h => h) (Or.inl ⟨by rfl, ?hy8⟩) (by assumption) ?rest8
  case hy8 => (intro W hSw; (try dsimp only at hSw); go_simp; try with_reducible rfl)
  try simp only [Act.put, List.setIfInBounds_toArray, List.set_cons_zero, List.set_cons_succ]
  refine held_one (i := 7) (o := ⟨some 9, _, _, _, _, _⟩) rfl (by kernel_rfl) (by rfl) (fun K hK => ?_)
  (try rw [hwd])
  go_simp
  obtain ⟨g, hg⟩ : ∃ g, wd.heap.size = g := ⟨_, rfl⟩
  obtain ⟨w1, hw1⟩ : ∃ w1, wd.alloc (.cells (bv (List.replicate m false)).toArray 4) = w1 := ⟨_, rfl⟩
  have HG := hide hg
  have HB1 := hide (show Blk w1 g 4 (bv (List.replicate m false)).toArray from by rw [← hw1, ← hg]; exact Blk.new wd _ _)
  have k1 : Kept [] wd w1 := by rw [← hw1]; exact (Kept.refl [] wd).alloc _
  have HR1 := hide (HD.out.keep k1)
  have HK1 := hide (HKd.out.trans k1 (by simp))
  have HGL := hide (show ∀ y ∈ [p, V, U, D, E], y < g from fun y hy => by have := HD.out.lt y hy; omega)
  have HSG := hide (show g < w1.heap.size from HB1.out.lt)
  have x2 := HR1.out.box.cell 2
  have fz := Blk.frozen HR1.out.box
  rw [hw1, hg]
  clear hg hw1 k1
  refine hK.out _ _ (by exact trivial) (fun hHeld => ?_)
  clear hK K
  try simp only [Act.put, List.setIfInBounds_toArray, List.set_cons_zero, List.set_cons_succ]
  refine wpAnyH_take (i := 10) (oi := ⟨some 12, _, _, _, _, _⟩) (v := ?v9) rfl (by kernel_rfl) (by kernel_rfl) (by kernel_rfl) (fun _ _ _ h => h) (Or.inl ⟨by rfl, ?hy9⟩) (by assumption) ?rest9
  case hy9 => (intro W hSw; (try dsimp only at hSw); go_simp; try with_reducible rfl)
  try simp only [Act.put, List.setIfInBounds_toArray, List.set_cons_zero, List.set_cons_succ]
  refine held_one (i := 11) (o := ⟨none, _, _, _, _, _⟩) rfl (by kernel_rfl) (by rfl) (fun K hK => ?_)
  go_simp
  refine hK.out _ _ (by exact trivial) (fun hHeld => ?_)
  clear hK K
  try simp only [Act.put, List.setIfInBounds_toArray, List.set_cons_zero, List.set_cons_succ]
  refine wpAnyH_done (by kernel_rfl) ?_ _
  refine NoPanic.normal ?_
  obtain ⟨w2, hw2⟩ : ∃ w2, w1.setCell ⟨p, 2, none⟩ (.slice (some ⟨g, 0, none⟩) m m) = w2 := ⟨_, rfl⟩
  obtain ⟨r2, kk2⟩ := HR1.out.fresh1 (D2 := g) (by rw [HM.out]; exact HB1.out) HGL.out
  rw [HM.out, hw2] at r2 kk2
  rw [hw2]
  have HR2 := hide r2
  have HK2 := hide ((HK1.out.mono (S' := [p]) (by simp)).trans kk2 (fun y hy => .inl hy))
  have HSG2 := hide (show g < w2.heap.size from Nat.lt_of_lt_of_le HSG.out kk2.size)
  clear x2 fz hw2 r2 kk2 hHeld
  obtain ⟨we, hwe⟩ : ∃ we, w2.drew = we := ⟨_, rfl⟩
  have k3 : Kept [] w2 we := by rw [← hwe]; exact (Kept.refl [] w2).drew
  have HR3 := hide (HR2.out.keep k3)
  have HK3 := hide (HK2.out.trans k3 (by simp))
  have HSG3 := hide (show g < we.heap.size from Nat.lt_of_lt_of_le HSG2.out k3.size)
  have HC3 := hide (show we.cell? ⟨p, 3, none⟩ = some (.slice (some ⟨E, 0, none⟩) m m) from by have := HR3.out.cells.2.2.2; simpa using this)
  clear k3 HB1 HR1 HR2 HK1 HK2
  go_wp2
  refine wp_region_noPanic ?_
  refine wp_region_held_drew (S := fun _ => True) (by kernel_rfl) (by trivial) (fun hHeld => ?_)
  refine wpAnyH_take (i := 0) (oi := ⟨some 13, _, _, _, _, _⟩) (v := ?v10) rfl (by kernel_rfl) (by kernel_rfl) (by kernel_rfl) (fun _ _ _ h => h) (Or.inl ⟨by rfl, ?hy10⟩) (by assumption) ?rest10
  case hy10 => (intro W hSw; (try dsimp only at hSw); go_simp; try with_reducible rfl)
  try simp only [Act.put, List.setIfInBounds_toArray, List.set_cons_zero, List.set_cons_succ]
  refine wpAnyH_take (i := 1) (oi := ⟨some 14, _, _, _, _, _⟩) (v := ?v11) rfl (by kernel_rfl) (by kernel_rfl) (by kernel_rfl) (fun _ _ _ h => h) (Or.inl ⟨by rfl, ?hy11⟩) (by assumption) ?rest11
  case hy11 => (intro W hSw; (try dsimp only at hSw); go_simp; try with_reducible rfl)
  try simp only [Act.put, List.setIfInBounds_toArray, List.set_cons_zero, List.set_cons_succ]
  refine wpAnyH_take (i := 2) (oi := ⟨some 15, _, _, _, _, _⟩) (v := ?v12) rfl (by kernel_rfl) (by kernel_rfl) (by kernel_rfl) (fun _ _ _ h => h) (Or.inl ⟨by rfl, ?hy12⟩) (by assumption) ?rest12
  case hy12 => (intro W hSw; (try dsimp only at hSw); go_simp; try with_reducible rfl)
  try simp only [Act.put, List.setIfInBounds_toArray, List.set_cons_zero, List.set_cons_succ]
  refine wpAnyH_take (i := 3) (oi := ⟨some 16, _, _, _, _, _⟩) (v := ?v13) rfl (by kernel_rfl) (by kernel_rfl) (by kernel_rfl) (fun _ _ _ h => h) (Or.inl ⟨by rfl, ?hy13⟩) (by assumption) ?rest13
  case hy13 => (intro W hSw; (try dsimp only at hSw); go_simp; try with_reducible rfl)
  try simp only [Act.put, List.setIfInBounds_toArray, List.set_cons_zero, List.set_cons_succ]
  refine wpAnyH_take (i := 4) (oi := ⟨some 17, _, _, _, _, _⟩) (v := ?v14) rfl (by kernel_rfl) (by kernel_rfl) (by kernel_rfl) (fun _ _ _ h => h) (Or.inl ⟨by rfl, ?hy14⟩) (by assumption) ?rest14
  case hy14 => (intro W hSw; (try dsimp only at hSw); go_simp; try with_reducible rfl)
  try simp only [Act.put, List.setIfInBounds_toArray, List.set_cons_zero, List.set_cons_succ]
  refine wpAnyH_take (i := 8) (oi := ⟨some 21, _, _, _, _, _⟩) (v := ?v15) rfl (by kernel_rfl) (by kernel_rfl) (by kernel_rfl) (fun _ _ _ h => h) (Or.inl ⟨by rfl, ?hy15⟩) (by assumption) ?rest15
  case hy15 => (intro W hSw; (try dsimp only at hSw); go_simp; try with_reducible rfl)
  try simp only [Act.put, List.setIfInBounds_toArray, List.set_cons_zero, List.set_cons_succ]
  refine wpAnyH_take (i := 9) (oi := ⟨some 22, _, _, _, _, _⟩) (v := ?v16) rfl (by kernel_rfl) (by kernel_rfl) (by kernel_rfl) (fun _ _ _ h => h) (Or.inl ⟨by rfl, ?hy16⟩) (by assumption) ?rest16
  case hy16 => (intro W hSw; (try dsimp only at hSw); go_simp; try with_reducible rfl)
  try simp only [Act.put, List.setIfInBounds_toArray, List.set_cons_zero, List.set_cons_succ]
  refine held_one (i := 5) (o := ⟨some 18, _, _, _, _, _⟩) rfl (by kernel_rfl) (by rfl) (fun K hK => ?_)
  (try rw [hwe])
  have xc3 := HC3.out
  go_simp
  refine hK.out _ _ (by exact trivial) (fun hHeld => ?_)
  clear hK K
  try simp only [Act.put, List.setIfInBounds_toArray, List.set_cons_zero, List.set_cons_succ]
  refine wpAnyH_take (i := 6) (oi := ⟨some 19, _, _, _, _, _⟩) (v := ?v17) rfl (by kernel_rfl) (by kernel_rfl) (by kernel_rfl) (fun _ _ _ h => h) (Or.inl ⟨by rfl, ?hy17⟩) (by assumption) ?rest17
  case hy17 => (intro W hSw; (try dsimp only at hSw); go_simp; try with_reducible rfl)
  try simp only [Act.put, List.setIfInBounds_toArray, List.set_cons_zero, List.set_cons_succ]
  refine held_one (i := 7) (o := ⟨some 20, _, _, _, _, _⟩) rfl (by kernel_rfl) (by rfl) (fun K hK => ?_)
  (try rw [hwe])
  go_simp
  obtain ⟨g2, hg2⟩ : ∃ g, we.heap.size = g := ⟨_, rfl⟩
  obtain ⟨w4, hw4⟩ : ∃ w1, we.alloc (.cells (bv (List.replicate m false)).toArray 4) = w1 := ⟨_, rfl⟩
  have HG2 := hide hg2
  have HB4 := hide (show Blk w4 g2 4 (bv (List.replicate m false)).toArray from by rw [← hw4, ← hg2]; exact Blk.new we _ _)
  have k4 : Kept [] we w4 := by rw [← hw4]; exact (Kept.refl [] we).alloc _
  have HR4 := hide (HR3.out.keep k4)
  have HK4 := hide (HK3.out.trans k4 (by simp))
  have HGL2 := hide (show ∀ y ∈ [p, V, U, g, E], y < g2 from fun y hy => by have := HR3.out.lt y hy; omega)
  have x3 := HR4.out.box.cell 3
  have fz := Blk.frozen HR4.out.box
  rw [hw4, hg2]
  clear hg2 hw4 k4
  refine hK.out _ _ (by exact trivial) (fun hHeld => ?_)
  clear hK K
  try simp only [Act.put, List.setIfInBounds_toArray, List.set_cons_zero, List.set_cons_succ]
  refine wpAnyH_take (i := 10) (oi := ⟨some 23, _, _, _, _, _⟩) (v := ?v18) rfl (by kernel_rfl) (by kernel_rfl) (by kernel_rfl) (fun _ _ _ h => h) (Or.inl ⟨by rfl, ?hy18⟩) (by assumption) ?rest18
  case hy18 => (intro W hSw; (try dsimp only at hSw); go_simp; try with_reducible rfl)
  try simp only [Act.put, List.setIfInBounds_toArray, List.set_cons_zero, List.set_cons_succ]
  refine held_one (i := 11) (o := ⟨none, _, _, _, _, _⟩) rfl (by kernel_rfl) (by rfl) (fun K hK => ?_)
  go_simp
  refine hK.out _ _ (by exact trivial) (fun hHeld => ?_)
  clear hK K
  try simp only [Act.put, List.setIfInBounds_toArray, List.set_cons_zero, List.set_cons_succ]
  refine wpAnyH_done (by kernel_rfl) ?_ _
  refine NoPanic.normal ?_
  obtain ⟨w5, hw5⟩ : ∃ w5, w4.setCell ⟨p, 3, none⟩ (.slice (some ⟨g2, 0, none⟩) m m) = w5 := ⟨_, rfl⟩
  obtain ⟨r5, kk5⟩ := HR4.out.fresh2 (E2 := g2) (by simpa using HB4.out) HGL2.out
  simp only [List.length_replicate] at r5 kk5
  rw [hw5] at r5 kk5
  rw [hw5]
  have HR5 := hide r5
  have HK5 := hide (HK4.out.trans kk5 (fun y hy => .inl hy))
  clear x3 fz hw5 r5 kk5 hHeld
  go_wp2
  go_end0
  refine ⟨rfl, g, g2, ?_, HK5.out, by have := HG.out; have := HKd.out.size; omega, by have h1 := HG2.out; have h2 := HK3.out.size; omega⟩
  have := HR5.out
  rw [HM.out, HDL.out, HM.out]
  exact this
def RLoadPost (w w' : World) (p V U D E c : Nat) (M : Im) (ov : Bool) (k b : Nat) (xs : List Int) (Q : Bool) : Prop := if Q = true then RI w' p V U D E c (M.put ov ((M.tb ov).load k b xs)) ∧ Kept [V, U, D, E] w w' else Kept [] w w'
theorem lay_tail (l : List Int) (tl : List Value) (b : Nat) (xs : List Int) (h : b + xs.length ≤ l.length) : lay (l.map I ++ tl) b (xs.map I) = (l.take b ++ (xs ++ l.drop (b + xs.length))).map I ++ tl := by
  unfold lay
  rw [List.take_append_of_le_length (by rw [List.length_map]; omega), List.drop_append_of_le_length (by rw [List.length_map, List.length_map]; omega), List.length_map, List.map_append, List.map_append, List.map_take, List.map_drop]
  simp
theorem RI.loaded_false (h : RI w p V U D E c M) (b : Nat) (xs : List Int) (tl : List Value) (hb : b + xs.length ≤ M.b.l.length) (k : Kept [V] w w') (hB : Blk w' V 3 (lay (M.b.l.map I ++ tl) b (xs.map I)).toArray) : RI w' p V U D E c (M.put false (⟨M.b.l.take b ++ (xs ++ M.b.l.drop (b + xs.length)), M.b.d⟩ : Tb)) := by
  obtain ⟨⟨a1, a2, a3, a4⟩, ⟨b1, b2, b3⟩, ⟨c1, c2⟩, d1⟩ := h.ne
  have hll : (M.b.l.take b ++ (xs ++ M.b.l.drop (b + xs.length))).length = M.b.l.length := by simp; omega
  rw [lay_tail _ _ _ _ hb] at hB
  exact ⟨by have := k.blk h.box (by simp; exact a1); show Blk _ p _ #[.slice _ (M.b.l.take b ++ (xs ++ M.b.l.drop (b + xs.length))).length (M.b.l.take b ++ (xs ++ M.b.l.drop (b + xs.length))).length, .slice _ (M.b.l.take b ++ (xs ++ M.b.l.drop (b + xs.length))).length c, _, _]; rw [hll]; exact this, ⟨tl, hB⟩, h.over.kept k (by simp; exact fun e => b1 e.symm), k.blk h.d (by simp; exact fun e => b2 e.symm), k.blk h.e (by simp; exact fun e => b3 e.symm), h.len.trans hll.symm, h.dlen, h.pg.trans (by show _ = ((M.b.l.take b ++ (xs ++ M.b.l.drop (b + xs.length))).length + 14) / 15; rw [hll]), by show 1 ≤ (M.b.l.take b ++ (xs ++ M.b.l.drop (b + xs.length))).length ∧ _; rw [show (M.put false (⟨M.b.l.take b ++ (xs ++ M.b.l.drop (b + xs.length)), M.b.d⟩ : Tb)).b.l.length = M.b.l.length from hll, hll]; exact h.small, by show (M.b.l.take b ++ (xs ++ M.b.l.drop (b + xs.length))).length ≤ c; rw [hll]; exact h.cap, h.apart⟩
theorem RI.unmark_false {L : List Int} (h : RI w p V U D E c (M.put false ⟨L, M.b.d⟩)) (k : Nat) : RI (w.setCell ⟨D, k, none⟩ (.bool false)) p V U D E c (M.put false ⟨L, M.b.d.set k false⟩) ∧ Kept [D] w (w.setCell ⟨D, k, none⟩ (.bool false)) := by
  obtain ⟨⟨a1, a2, a3, a4⟩, ⟨b1, b2, b3⟩, ⟨c1, c2⟩, d1⟩ := h.ne
  have k1 : Kept [D] w (w.setCell ⟨D, k, none⟩ (.bool false)) := (Kept.refl _ w).set_ (.inl (by simp)) k _
  have hm := h.d.set_ k (.bool false)
  rw [List.setIfInBounds_toArray] at hm
  have hm2 : Blk (w.setCell ⟨D, k, none⟩ (.bool false)) D 4 (bv (M.b.d.set k false)).toArray := by
    unfold bv at hm ⊢
    rw [List.map_set]
    exact hm
  exact ⟨⟨by have := k1.blk h.box (by simp; exact a3); show Blk _ p _ #[_, _, .slice _ (M.b.d.set k false).length (M.b.d.set k false).length, .slice _ (M.b.d.set k false).length (M.b.d.set k false).length]; rw [List.length_set]; exact this, h.base.kept k1 (by simp; exact b2), h.over.kept k1 (by simp; exact c1), hm2, k1.blk h.e (by simp; exact fun e => d1 e.symm), h.len, by show _ = (M.b.d.set k false).length; rw [List.length_set]; exact h.dlen, by show (M.b.d.set k false).length = _; rw [List.length_set]; exact h.pg, h.small, h.cap, h.apart⟩, k1⟩
theorem RI.loaded_true (h : RI w p V U D E c M) (b : Nat) (xs : List Int) (tl : List Value) (hb : b + xs.length ≤ M.o.l.length) (k : Kept [U] w w') (hB : Blk w' U 3 (lay (M.o.l.map I ++ tl) b (xs.map I)).toArray) : RI w' p V U D E c (M.put true (⟨M.o.l.take b ++ (xs ++ M.o.l.drop (b + xs.length)), M.o.d⟩ : Tb)) := by
  obtain ⟨⟨a1, a2, a3, a4⟩, ⟨b1, b2, b3⟩, ⟨c1, c2⟩, d1⟩ := h.ne
  have hll : (M.o.l.take b ++ (xs ++ M.o.l.drop (b + xs.length))).length = M.o.l.length := by simp; omega
  rw [lay_tail _ _ _ _ hb] at hB
  exact ⟨k.blk h.box (by simp; exact a2), h.base.kept k (by simp; exact b1), ⟨tl, hB⟩, k.blk h.d (by simp; exact fun e => c1 e.symm), k.blk h.e (by simp; exact fun e => c2 e.symm), hll.trans h.len, h.dlen, h.pg, h.small, h.cap, h.apart⟩
theorem RI.unmark_true {L : List Int} (h : RI w p V U D E c (M.put true ⟨L, M.o.d⟩)) (k : Nat) : RI (w.setCell ⟨E, k, none⟩ (.bool false)) p V U D E c (M.put true ⟨L, M.o.d.set k false⟩) ∧ Kept [E] w (w.setCell ⟨E, k, none⟩ (.bool false)) := by
  obtain ⟨⟨a1, a2, a3, a4⟩, ⟨b1, b2, b3⟩, ⟨c1, c2⟩, d1⟩ := h.ne
  have k1 : Kept [E] w (w.setCell ⟨E, k, none⟩ (.bool false)) := (Kept.refl _ w).set_ (.inl (by simp)) k _
  have hm := h.e.set_ k (.bool false)
  rw [List.setIfInBounds_toArray] at hm
  have hm2 : Blk (w.setCell ⟨E, k, none⟩ (.bool false)) E 4 (bv (M.o.d.set k false)).toArray := by
    unfold bv at hm ⊢
    rw [List.map_set]
    exact hm
  exact ⟨⟨by have := k1.blk h.box (by simp; exact a4); exact this, h.base.kept k1 (by simp; exact b3), h.over.kept k1 (by simp; exact c2), k1.blk h.d (by simp; exact d1), hm2, h.len, by show (M.o.d.set k false).length = _; rw [List.length_set]; exact h.dlen, h.pg, h.small, h.cap, h.apart⟩, k1⟩
set_option maxRecDepth 100000 in
set_option maxHeartbeats 2000000 in
theorem rload_false (h : RI w p V U D E c M) (k : Nat) (hk : k < M.b.d.length) (b m : Nat) (hb : k * 15 = b) (hm : min (b + 15) M.b.l.length - b = m) (A : Option Addr) (l cc : Nat) (hlc : l ≤ cc) (hl : m ≤ l) (xs : List Int) (hx : xs.length = l) (hv : Vals w [] A (xs.map I)) :
    Calls Try.prog 25 #[.pointer (some ⟨p, 0, none⟩), .bool false, .int .i64 k, .slice A l cc] w fun e w' => e = .returned (.bool ((xs.take m).all (okRef false))) ∧ RLoadPost w w' p V U D E c M false k b (xs.take m) ((xs.take m).all (okRef false)) := by
  have H := hide h
  have hs := h.small
  have hpg := h.pg
  have hcap := h.cap
  have hle := h.len
  have hdl := h.dlen
  have HPG := hide (rpage_false h k hk b m hb hm)
  obtain ⟨n, hn⟩ : ∃ n, M.b.l.length = n := ⟨_, rfl⟩
  have HNE := hide hn
  obtain ⟨md, hmd⟩ : ∃ m, M.b.d.length = m := ⟨_, rfl⟩
  have HMD := hide hmd
  have HLL := hide (show M.b.l.length = n from hn)
  have HDD := hide (show M.b.d.length = md from hmd)
  rw [hn] at hs hm hpg hcap
  rw [hmd] at hk hpg
  have hbn : b < n := by omega
  have hm1 : 1 ≤ m := by omega
  have hbm : b + m ≤ n := by omega
  have hm2 : m ≤ 15 := by omega
  have hbn2 : b ≤ n := by omega
  have hmcc : m ≤ cc := by omega
  have hnb : ¬ n = b := by omega
  have hcb : ¬ c = b := by omega
  have hd0 : ((m : Int) == 0) = false := beq_eq_false_iff_ne.2 (by omega)
  have hd1 : decide ((l : Int) < (m : Int)) = false := decide_eq_false (by omega)
  have hd1n : decide (l < m) = false := decide_eq_false (by omega)
  have hkw : IntKind.i64.wrap ((k : Int) * 15) = (b : Int) := by rw [IntWalk.i64_in _ (by omega)]; omega
  have HX := hide hx
  have HV := hide hv
  obtain ⟨Q, hQ⟩ : ∃ Q, (xs.take m).all (okRef false) = Q := ⟨_, rfl⟩
  rw [hQ]
  have HQ := hide hQ
  clear h hn hmd hle hdl hQ hx hv hb hm hpg
  go_enter Try.func25, Try.ntmps25
  go_wp2_with fail
  refine HPG.out.mono ?_
  rintro e w1 ⟨v, rfl, ho, hk1⟩
  obtain ⟨A1, c1, rfl, _, _⟩ := own_read ho
  have HK1 := hide hk1
  have HV1 := hide (HV.out.kept hk1 (by simp))
  have HR1 := hide (H.out.keep hk1)
  clear ho hk1
  go_wp2
  go_loopw [8, 11] (fun _ i wr => ∃ j : Nat, j ≤ m ∧ i = .int .i64 j ∧ wr = w1 ∧ Hid ((xs.take j).all (okRef false) = true)) (fun _ i _ => m - (intOf i).toNat)
  case atStart => exact ⟨0, Nat.zero_le _, rfl, rfl, hide (by simp)⟩
  case round =>
    obtain ⟨j, hj, rfl, rfl, hall⟩ := hrel
    by_cases hlt : j < m
    · obtain ⟨r, hr⟩ : ∃ r, xs[j]? = some r := ⟨_, List.getElem?_eq_getElem (by rw [HX.out]; omega)⟩
      obtain ⟨ad, rfl, _, a0⟩ := HV1.out j (I r) (by rw [List.getElem?_map, hr]; rfl)
      unfold I at a0
      have HR := hide hr
      have HOK := hide (show okRef false r = (decide (0 ≤ r) && decide (r ≤ 4095)) from by unfold okRef least; rw [if_neg (by decide), Bool.decide_and]; congr 1; exact decide_eq_decide.2 (by omega))
      clear hr
      have HTK := hide (show xs.take (j + 1) = xs.take j ++ [r] from by rw [List.take_add_one, HR.out]; rfl)
      have HBAD := hide (show okRef false r = false → (xs.take m).all (okRef false) = false from fun e => by
        rw [List.all_eq_false]
        exact ⟨r, List.mem_of_getElem? (i := j) (by rw [List.getElem?_take_of_lt hlt]; exact HR.out), by simp [e]⟩)
      go_wp2_with fail
      refine (within_any r 0 4095 _).mono ?_
      rintro e w' ⟨rfl, rfl⟩
      rw [← HOK.out]
      obtain ⟨q, hq⟩ : ∃ q, okRef false r = q := ⟨_, rfl⟩
      rw [hq]
      have HQR := hide hq
      clear hq
      cases q
      · have HF := hide (HBAD.out HQR.out)
        rw [HQ.out] at HF
        go_wp2
        go_ret
        rw [HF.out]
        exact ⟨rfl, by unfold RLoadPost; rw [if_neg (by decide)]; exact HK1.out⟩
      · go_wp2
        go_roundw
        case rel => exact ⟨j + 1, by omega, by go_num, trivial, hide (by rw [HTK.out, List.all_append, hall.out]; simp [HQR.out])⟩
        case measure => simp [intOf]; omega
    · obtain rfl : j = m := by omega
      have HT := hide hall.out
      rw [HQ.out] at HT
      have HRT := hide (rtable_any HR1.out false)
      unfold tabV tabK at HRT
      rw [if_neg (by decide), if_neg (by decide), HNE.out] at HRT
      obtain ⟨tl, hblk⟩ := HR1.out.base
      have HBK := hide hblk
      obtain ⟨wd, hwd⟩ : ∃ wd, wr.drew = wd := ⟨_, rfl⟩
      have k3 : Kept [] wr wd := by rw [← hwd]; exact (Kept.refl [] wr).drew
      have HKd := hide (HK1.out.trans k3 (by simp))
      have HRd := hide (HR1.out.keep k3)
      have HVd := hide (show Vals wd [] A ((xs.take j).map I) from by
        have h1 := HV1.out.kept k3 (by simp)
        intro i v hi
        refine h1 i v ?_
        rw [List.map_take, List.getElem?_take] at hi
        split at hi
        · exact hi
        · cases hi)
      have HBd := hide (k3.blk hblk (by simp))
      have HLX := hide (show ((xs.take j).map I).length = Nat.min j (n - b) from by rw [List.length_map, List.length_take, HX.out]; show min j l = min j (n - b); omega)
      have HLP := hide (show 0 < ((xs.take j).map I).length from by rw [HLX.out]; show 0 < min j (n - b); omega)
      have HFIT := hide (show b + ((xs.take j).map I).length ≤ (M.b.l.map I ++ tl).length from by rw [HLX.out, List.length_append, List.length_map, HLL.out]; show b + min j (n - b) ≤ _; omega)
      clear hblk k3
      go_wp2_with fail
      refine HRT.out.mono ?_
      rintro e w' ⟨rfl, rfl⟩
      go_wp2
      refine wp_region_noPanic ?_
      refine wp_region_held_drew (S := fun _ => True) (by kernel_rfl) (by trivial) (fun hHeld => ?_)
      refine wpAnyH_take (i := 0) (oi := ⟨some 46, _, _, _, _, _⟩) (v := ?v19) rfl (by kernel_rfl) (by kernel_rfl) (by kernel_rfl) (fun _ _ _ h => h) (Or.inl ⟨by rfl, ?hy19⟩) (by assumption) ?rest19
      case hy19 => (intro W hSw; (try dsimp only at hSw); go_simp; try with_reducible rfl)
      try simp only [Act.put, List.setIfInBounds_toArray, List.set_cons_zero, List.set_cons_succ]
      refine wpAnyH_take (i := 1) (oi := ⟨some 47, _, _, _, _, _⟩) (v := ?v20) rfl (by kernel_rfl) (by kernel_rfl) (by kernel_rfl) (fun _ _ _ h => h) (Or.inl ⟨by rfl, ?hy20⟩) (by assumption) ?rest20
      case hy20 => (intro W hSw; (try dsimp only at hSw); go_simp; try with_reducible rfl)
      try simp only [Act.put, List.setIfInBounds_toArray, List.set_cons_zero, List.set_cons_succ]
      refine wpAnyH_take (i := 2) (oi := ⟨some 48, _, _, _, _, _⟩) (v := ?v21) rfl (by kernel_rfl) (by kernel_rfl) (by kernel_rfl) (fun _ _ _ h => h) (Or.inl ⟨by rfl, ?hy21⟩) (by assumption) ?rest21
      case hy21 => (intro W hSw; (try dsimp only at hSw); go_simp; try with_reducible rfl)
      try simp only [Act.put, List.setIfInBounds_toArray, List.set_cons_zero, List.set_cons_succ]
      refine wpAnyH_take (i := 3) (oi := ⟨some 49, _, _, _, _, _⟩) (v := ?v22) rfl (by kernel_rfl) (by kernel_rfl) (by kernel_rfl) (fun _ _ _ h => h) (Or.inl ⟨by rfl, ?hy22⟩) (by assumption) ?rest22
      case hy22 => (intro W hSw; (try dsimp only at hSw); go_simp; try with_reducible rfl)
      try simp only [Act.put, List.setIfInBounds_toArray, List.set_cons_zero, List.set_cons_succ]
      refine wpAnyH_take (i := 4) (oi := ⟨some 50, _, _, _, _, _⟩) (v := ?v23) rfl (by kernel_rfl) (by kernel_rfl) (by kernel_rfl) (fun _ _ _ h => h) (Or.inl ⟨by rfl, ?hy23⟩) (by assumption) ?rest23
      case hy23 => (intro W hSw; (try dsimp only at hSw); go_simp; try with_reducible rfl)
      try simp only [Act.put, List.setIfInBounds_toArray, List.set_cons_zero, List.set_cons_succ]
      refine wpAnyH_take (i := 5) (oi := ⟨some 51, _, _, _, _, _⟩) (v := ?v24) rfl (by kernel_rfl) (by kernel_rfl) (by kernel_rfl) (fun _ _ _ h => h) (Or.inl ⟨by rfl, ?hy24⟩) (by assumption) ?rest24
      case hy24 => (intro W hSw; (try dsimp only at hSw); go_simp; try with_reducible rfl)
      try simp only [Act.put, List.setIfInBounds_toArray, List.set_cons_zero, List.set_cons_succ]
      refine wpAnyH_take (i := 6) (oi := ⟨some 52, _, _, _, _, _⟩) (v := ?v25) rfl (by kernel_rfl) (by kernel_rfl) (by kernel_rfl) (fun _ _ _ h => h) (Or.inl ⟨by rfl, ?hy25⟩) (by assumption) ?rest25
      case hy25 => (intro W hSw; (try dsimp only at hSw); go_simp; try with_reducible rfl)
      try simp only [Act.put, List.setIfInBounds_toArray, List.set_cons_zero, List.set_cons_succ]
      refine held_one (i := 7) (o := ⟨some 53, _, _, _, _, _⟩) rfl (by kernel_rfl) (by rfl) (fun K hK => ?_)
      (try rw [hwd])
      refine wp_copy_vals 3 (.tmp 49) (.tmp 52) 29 29 rfl Try.underlying29 (by kernel_rfl) V b (n - b) (n - b) j cc A (by go_simp) (by go_simp) ((xs.take j).map I) HLX.out [] HVd.out (oneCell_I _) HLP.out (M.b.l.map I ++ tl) HBd.out HFIT.out ?_
      intro w2 hk2 hb2
      refine hK.out _ _ (by exact trivial) (fun hHeld => ?_)
      clear hK K
      try simp only [Act.put, List.setIfInBounds_toArray, List.set_cons_zero, List.set_cons_succ]
      refine wpAnyH_done (by kernel_rfl) ?_ _
      refine NoPanic.normal ?_
      have HR2 := hide (HRd.out.loaded_false b (xs.take j) tl (by rw [HLL.out, List.length_take, HX.out]; omega) hk2 hb2)
      have HK2 := hide ((HKd.out.mono (S' := [V, U, D, E]) (by simp)).trans hk2 (fun y hy => .inl (by simp at hy; subst hy; simp)))
      clear hHeld hk2 hb2
      obtain ⟨_, _, q2, q3⟩ := HR2.out.cells
      obtain ⟨bo, hbo⟩ : ∃ bo, M.b.d[k]? = some bo := ⟨_, List.getElem?_eq_getElem (by rw [HDD.out]; exact hk)⟩
      have r3 : w2.cell? ⟨D, k, none⟩ = some (.bool bo) := by rw [HR2.out.d.cell]; show (bv M.b.d).toArray[k]? = _; simp [bv, hbo]
      have f3 := HR2.out.d.frozen k
      have HFIN := hide (HR2.out.unmark_false k)
      rw [show (M.put false (⟨M.b.l.take b ++ (xs.take j ++ M.b.l.drop (b + (xs.take j).length)), M.b.d⟩ : Tb)).b.d.length = md from HMD.out] at q2 q3
      clear hbo
      go_wp2
      go_ret
      rw [HT.out]
      refine ⟨rfl, ?_⟩
      unfold RLoadPost
      rw [if_pos rfl]
      exact ⟨HFIN.out.1, HK2.out.trans HFIN.out.2 (fun y hy => .inl (by simp at hy; subst hy; simp))⟩
set_option maxRecDepth 100000 in
set_option maxHeartbeats 2000000 in
theorem rload_true (h : RI w p V U D E c M) (k : Nat) (hk : k < M.b.d.length) (b m : Nat) (hb : k * 15 = b) (hm : min (b + 15) M.b.l.length - b = m) (A : Option Addr) (l cc : Nat) (hlc : l ≤ cc) (hl : m ≤ l) (xs : List Int) (hx : xs.length = l) (hv : Vals w [] A (xs.map I)) :
    Calls Try.prog 25 #[.pointer (some ⟨p, 0, none⟩), .bool true, .int .i64 k, .slice A l cc] w fun e w' => e = .returned (.bool ((xs.take m).all (okRef true))) ∧ RLoadPost w w' p V U D E c M true k b (xs.take m) ((xs.take m).all (okRef true)) := by
  have H := hide h
  have hs := h.small
  have hpg := h.pg
  have hcap := h.cap
  have hle := h.len
  have hdl := h.dlen
  have HPG := hide (rpage_true h k hk b m hb hm)
  obtain ⟨n, hn⟩ : ∃ n, M.b.l.length = n := ⟨_, rfl⟩
  have HNE := hide hn
  obtain ⟨md, hmd⟩ : ∃ m, M.b.d.length = m := ⟨_, rfl⟩
  have HMD := hide hmd
  have HLL := hide (show M.o.l.length = n from hle.trans hn)
  have HDD := hide (show M.o.d.length = md from hdl.trans hmd)
  rw [hn] at hs hm hpg hcap
  rw [hmd] at hk hpg
  have hbn : b < n := by omega
  have hm1 : 1 ≤ m := by omega
  have hbm : b + m ≤ n := by omega
  have hm2 : m ≤ 15 := by omega
  have hbn2 : b ≤ n := by omega
  have hmcc : m ≤ cc := by omega
  have hnb : ¬ n = b := by omega
  have hcb : ¬ c = b := by omega
  have hd0 : ((m : Int) == 0) = false := beq_eq_false_iff_ne.2 (by omega)
  have hd1 : decide ((l : Int) < (m : Int)) = false := decide_eq_false (by omega)
  have hd1n : decide (l < m) = false := decide_eq_false (by omega)
  have hkw : IntKind.i64.wrap ((k : Int) * 15) = (b : Int) := by rw [IntWalk.i64_in _ (by omega)]; omega
  have HX := hide hx
  have HV := hide hv
  obtain ⟨Q, hQ⟩ : ∃ Q, (xs.take m).all (okRef true) = Q := ⟨_, rfl⟩
  rw [hQ]
  have HQ := hide hQ
  clear h hn hmd hle hdl hQ hx hv hb hm hpg
  go_enter Try.func25, Try.ntmps25
  go_wp2_with fail
  refine HPG.out.mono ?_
  rintro e w1 ⟨v, rfl, ho, hk1⟩
  obtain ⟨A1, c1, rfl, _, _⟩ := own_read ho
  have HK1 := hide hk1
  have HV1 := hide (HV.out.kept hk1 (by simp))
  have HR1 := hide (H.out.keep hk1)
  clear ho hk1
  go_wp2
  go_loopw [8, 11] (fun _ i wr => ∃ j : Nat, j ≤ m ∧ i = .int .i64 j ∧ wr = w1 ∧ Hid ((xs.take j).all (okRef true) = true)) (fun _ i _ => m - (intOf i).toNat)
  case atStart => exact ⟨0, Nat.zero_le _, rfl, rfl, hide (by simp)⟩
  case round =>
    obtain ⟨j, hj, rfl, rfl, hall⟩ := hrel
    by_cases hlt : j < m
    · obtain ⟨r, hr⟩ : ∃ r, xs[j]? = some r := ⟨_, List.getElem?_eq_getElem (by rw [HX.out]; omega)⟩
      obtain ⟨ad, rfl, _, a0⟩ := HV1.out j (I r) (by rw [List.getElem?_map, hr]; rfl)
      unfold I at a0
      have HR := hide hr
      have HOK := hide (show okRef true r = (decide ((-1) ≤ r) && decide (r ≤ 4095)) from by unfold okRef least; rw [if_pos rfl, Bool.decide_and]; congr 1; exact decide_eq_decide.2 (by omega))
      clear hr
      have HTK := hide (show xs.take (j + 1) = xs.take j ++ [r] from by rw [List.take_add_one, HR.out]; rfl)
      have HBAD := hide (show okRef true r = false → (xs.take m).all (okRef true) = false from fun e => by
        rw [List.all_eq_false]
        exact ⟨r, List.mem_of_getElem? (i := j) (by rw [List.getElem?_take_of_lt hlt]; exact HR.out), by simp [e]⟩)
      go_wp2_with fail
      refine (within_any r (-1) 4095 _).mono ?_
      rintro e w' ⟨rfl, rfl⟩
      rw [← HOK.out]
      obtain ⟨q, hq⟩ : ∃ q, okRef true r = q := ⟨_, rfl⟩
      rw [hq]
      have HQR := hide hq
      clear hq
      cases q
      · have HF := hide (HBAD.out HQR.out)
        rw [HQ.out] at HF
        go_wp2
        go_ret
        rw [HF.out]
        exact ⟨rfl, by unfold RLoadPost; rw [if_neg (by decide)]; exact HK1.out⟩
      · go_wp2
        go_roundw
        case rel => exact ⟨j + 1, by omega, by go_num, trivial, hide (by rw [HTK.out, List.all_append, hall.out]; simp [HQR.out])⟩
        case measure => simp [intOf]; omega
    · obtain rfl : j = m := by omega
      have HT := hide hall.out
      rw [HQ.out] at HT
      have HRT := hide (rtable_any HR1.out true)
      unfold tabV tabK at HRT
      rw [if_pos rfl, if_pos rfl, HNE.out] at HRT
      obtain ⟨tl, hblk⟩ := HR1.out.over
      have HBK := hide hblk
      obtain ⟨wd, hwd⟩ : ∃ wd, wr.drew = wd := ⟨_, rfl⟩
      have k3 : Kept [] wr wd := by rw [← hwd]; exact (Kept.refl [] wr).drew
      have HKd := hide (HK1.out.trans k3 (by simp))
      have HRd := hide (HR1.out.keep k3)
      have HVd := hide (show Vals wd [] A ((xs.take j).map I) from by
        have h1 := HV1.out.kept k3 (by simp)
        intro i v hi
        refine h1 i v ?_
        rw [List.map_take, List.getElem?_take] at hi
        split at hi
        · exact hi
        · cases hi)
      have HBd := hide (k3.blk hblk (by simp))
      have HLX := hide (show ((xs.take j).map I).length = Nat.min j (n - b) from by rw [List.length_map, List.length_take, HX.out]; show min j l = min j (n - b); omega)
      have HLP := hide (show 0 < ((xs.take j).map I).length from by rw [HLX.out]; show 0 < min j (n - b); omega)
      have HFIT := hide (show b + ((xs.take j).map I).length ≤ (M.o.l.map I ++ tl).length from by rw [HLX.out, List.length_append, List.length_map, HLL.out]; show b + min j (n - b) ≤ _; omega)
      clear hblk k3
      go_wp2_with fail
      refine HRT.out.mono ?_
      rintro e w' ⟨rfl, rfl⟩
      go_wp2
      refine wp_region_noPanic ?_
      refine wp_region_held_drew (S := fun _ => True) (by kernel_rfl) (by trivial) (fun hHeld => ?_)
      refine wpAnyH_take (i := 0) (oi := ⟨some 46, _, _, _, _, _⟩) (v := ?v26) rfl (by kernel_rfl) (by kernel_rfl) (by kernel_rfl) (fun _ _ _ h => h) (Or.inl ⟨by rfl, ?hy26⟩) (by assumption) ?rest26
      case hy26 => (intro W hSw; (try dsimp only at hSw); go_simp; try with_reducible rfl)
      try simp only [Act.put, List.setIfInBounds_toArray, List.set_cons_zero, List.set_cons_succ]
      refine wpAnyH_take (i := 1) (oi := ⟨some 47, _, _, _, _, _⟩) (v := ?v27) rfl (by kernel_rfl) (by kernel_rfl) (by kernel_rfl) (fun _ _ _ h => h) (Or.inl ⟨by rfl, ?hy27⟩) (by assumption) ?rest27
      case hy27 => (intro W hSw; (try dsimp only at hSw); go_simp; try with_reducible rfl)
      try simp only [Act.put, List.setIfInBounds_toArray, List.set_cons_zero, List.set_cons_succ]
      refine wpAnyH_take (i := 2) (oi := ⟨some 48, _, _, _, _, _⟩) (v := ?v28) rfl (by kernel_rfl) (by kernel_rfl) (by kernel_rfl) (fun _ _ _ h => h) (Or.inl ⟨by rfl, ?hy28⟩) (by assumption) ?rest28
      case hy28 => (intro W hSw; (try dsimp only at hSw); go_simp; try with_reducible rfl)
      try simp only [Act.put, List.setIfInBounds_toArray, List.set_cons_zero, List.set_cons_succ]
      refine wpAnyH_take (i := 3) (oi := ⟨some 49, _, _, _, _, _⟩) (v := ?v29) rfl (by kernel_rfl) (by kernel_rfl) (by kernel_rfl) (fun _ _ _ h => h) (Or.inl ⟨by rfl, ?hy29⟩) (by assumption) ?rest29
      case hy29 => (intro W hSw; (try dsimp only at hSw); go_simp; try with_reducible rfl)
      try simp only [Act.put, List.setIfInBounds_toArray, List.set_cons_zero, List.set_cons_succ]
      refine wpAnyH_take (i := 4) (oi := ⟨some 50, _, _, _, _, _⟩) (v := ?v30) rfl (by kernel_rfl) (by kernel_rfl) (by kernel_rfl) (fun _ _ _ h => h) (Or.inl ⟨by rfl, ?hy30⟩) (by assumption) ?rest30
      case hy30 => (intro W hSw; (try dsimp only at hSw); go_simp; try with_reducible rfl)
      try simp only [Act.put, List.setIfInBounds_toArray, List.set_cons_zero, List.set_cons_succ]
      refine wpAnyH_take (i := 5) (oi := ⟨some 51, _, _, _, _, _⟩) (v := ?v31) rfl (by kernel_rfl) (by kernel_rfl) (by kernel_rfl) (fun _ _ _ h => h) (Or.inl ⟨by rfl, ?hy31⟩) (by assumption) ?rest31
      case hy31 => (intro W hSw; (try dsimp only at hSw); go_simp; try with_reducible rfl)
      try simp only [Act.put, List.setIfInBounds_toArray, List.set_cons_zero, List.set_cons_succ]
      refine wpAnyH_take (i := 6) (oi := ⟨some 52, _, _, _, _, _⟩) (v := ?v32) rfl (by kernel_rfl) (by kernel_rfl) (by kernel_rfl) (fun _ _ _ h => h) (Or.inl ⟨by rfl, ?hy32⟩) (by assumption) ?rest32
      case hy32 => (intro W hSw; (try dsimp only at hSw); go_simp; try with_reducible rfl)
      try simp only [Act.put, List.setIfInBounds_toArray, List.set_cons_zero, List.set_cons_succ]
      refine held_one (i := 7) (o := ⟨some 53, _, _, _, _, _⟩) rfl (by kernel_rfl) (by rfl) (fun K hK => ?_)
      (try rw [hwd])
      refine wp_copy_vals 3 (.tmp 49) (.tmp 52) 29 29 rfl Try.underlying29 (by kernel_rfl) U b (n - b) (c - b) j cc A (by go_simp) (by go_simp) ((xs.take j).map I) HLX.out [] HVd.out (oneCell_I _) HLP.out (M.o.l.map I ++ tl) HBd.out HFIT.out ?_
      intro w2 hk2 hb2
      refine hK.out _ _ (by exact trivial) (fun hHeld => ?_)
      clear hK K
      try simp only [Act.put, List.setIfInBounds_toArray, List.set_cons_zero, List.set_cons_succ]
      refine wpAnyH_done (by kernel_rfl) ?_ _
      refine NoPanic.normal ?_
      have HR2 := hide (HRd.out.loaded_true b (xs.take j) tl (by rw [HLL.out, List.length_take, HX.out]; omega) hk2 hb2)
      have HK2 := hide ((HKd.out.mono (S' := [V, U, D, E]) (by simp)).trans hk2 (fun y hy => .inl (by simp at hy; subst hy; simp)))
      clear hHeld hk2 hb2
      obtain ⟨_, _, q2, q3⟩ := HR2.out.cells
      obtain ⟨bo, hbo⟩ : ∃ bo, M.o.d[k]? = some bo := ⟨_, List.getElem?_eq_getElem (by rw [HDD.out]; exact hk)⟩
      have r3 : w2.cell? ⟨E, k, none⟩ = some (.bool bo) := by rw [HR2.out.e.cell]; show (bv M.o.d).toArray[k]? = _; simp [bv, hbo]
      have f3 := HR2.out.e.frozen k
      have HFIN := hide (HR2.out.unmark_true k)
      rw [show (M.put true (⟨M.o.l.take b ++ (xs.take j ++ M.o.l.drop (b + (xs.take j).length)), M.o.d⟩ : Tb)).b.d.length = md from HMD.out] at q2 q3
      clear hbo
      go_wp2
      go_ret
      rw [HT.out]
      refine ⟨rfl, ?_⟩
      unfold RLoadPost
      rw [if_pos rfl]
      exact ⟨HFIN.out.1, HK2.out.trans HFIN.out.2 (fun y hy => .inl (by simp at hy; subst hy; simp))⟩
theorem rload_none (h : RI w p V U D E c M) (ov : Bool) (k : Int) (hk : ¬ (0 ≤ k ∧ k < M.b.d.length)) (A : Option Addr) (l cc : Nat) :
    Calls Try.prog 25 #[.pointer (some ⟨p, 0, none⟩), .bool ov, .int .i64 k, .slice A l cc] w fun e w' => e = .returned (.bool false) ∧ w = w' := by
  have HP := hide (rpage_no h ov k hk)
  clear h hk
  cases ov <;> (
    go_enter Try.func25, Try.ntmps25
    go_wp2_with fail
    refine HP.out.mono ?_
    rintro e w' ⟨rfl, rfl⟩
    go_wp2
    go_ret
    exact ⟨rfl, rfl⟩)
theorem rpage_any (h : RI w p V U D E c M) (ov : Bool) (k : Nat) (hk : k < M.b.d.length) (b m : Nat) (hb : k * 15 = b) (hm : min (b + 15) M.b.l.length - b = m) :
    Calls Try.prog 50 #[.pointer (some ⟨p, 0, none⟩), .bool ov, .int .i64 k] w fun e w' => ∃ v, e = .returned v ∧ w'.ownsRow w.heap.size 3 1 v m ((((M.tb ov).l.drop b).take m).map I) ∧ Kept [] w w' := by
  cases ov
  · exact rpage_false h k hk b m hb hm
  · exact rpage_true h k hk b m hb hm
theorem rdirty_any (h : RI w p V U D E c M) (ov : Bool) :
    Calls Try.prog 52 #[.pointer (some ⟨p, 0, none⟩), .bool ov] w fun e w' => ∃ v, e = .returned v ∧ w'.ownsRow w.heap.size 3 1 v (M.dirt ov).length (cellsN (M.dirt ov)) ∧ Kept [] w w' := by
  cases ov
  · exact rdirty_false h
  · exact rdirty_true h
theorem rload_short (h : RI w p V U D E c M) (ov : Bool) (k : Nat) (hk : k < M.b.d.length) (b m : Nat) (hb : k * 15 = b) (hm : min (b + 15) M.b.l.length - b = m) (A : Option Addr) (l cc : Nat) (hl : l < m) :
    Calls Try.prog 25 #[.pointer (some ⟨p, 0, none⟩), .bool ov, .int .i64 k, .slice A l cc] w fun e w' => e = .returned (.bool false) ∧ Kept [] w w' := by
  have HP := hide (rpage_any h ov k hk b m hb hm)
  have hd0 : ((m : Int) == 0) = false := beq_eq_false_iff_ne.2 (by omega)
  have hd1 : decide ((l : Int) < (m : Int)) = true := decide_eq_true (by omega)
  have hd1n : decide (l < m) = true := decide_eq_true (by omega)
  clear h hk hb hm hl
  cases ov <;> (
    go_enter Try.func25, Try.ntmps25
    go_wp2_with fail
    refine HP.out.mono ?_
    rintro e w1 ⟨v, rfl, ho, hk⟩
    obtain ⟨A1, c1, rfl, _, _⟩ := own_read ho
    have HK := hide hk
    clear ho hk
    go_wp2
    go_ret
    exact ⟨rfl, HK.out⟩)
theorem rload_any (h : RI w p V U D E c M) (ov : Bool) (k : Nat) (hk : k < M.b.d.length) (b m : Nat) (hb : k * 15 = b) (hm : min (b + 15) M.b.l.length - b = m) (A : Option Addr) (l cc : Nat) (hlc : l ≤ cc) (hl : m ≤ l) (xs : List Int) (hx : xs.length = l) (hv : Vals w [] A (xs.map I)) :
    Calls Try.prog 25 #[.pointer (some ⟨p, 0, none⟩), .bool ov, .int .i64 k, .slice A l cc] w fun e w' => e = .returned (.bool ((xs.take m).all (okRef ov))) ∧ RLoadPost w w' p V U D E c M ov k b (xs.take m) ((xs.take m).all (okRef ov)) := by
  cases ov
  · exact rload_false h k hk b m hb hm A l cc hlc hl xs hx hv
  · exact rload_true h k hk b m hb hm A l cc hlc hl xs hx hv
end
theorem mk_ints (n : Nat) (hn : n ≤ 200000) (w : World) :
    (Instr.makeSlice 29 (.int .i64 (n : Int)) (.int .i64 (n : Int))).run Try.prog w = .ok (.slice (some ⟨w.heap.size, 0, none⟩) n n) (w.alloc (.cells ((List.replicate n (0 : Int)).map I).toArray 3)) := by
  rw [List.map_replicate, show I 0 = (.int .i64 0 : Value) from rfl, ← toList_madeCells_one]
  exact run_make_row' (P := Try.prog) 29 3 (.int .i64 0) 8 (by kernel_rfl) (by kernel_rfl) rfl .i64 .i64 n (by omega) (by omega) w
theorem own_rw1 {w : World} {base n : Nat} {A : Option Addr} {cc : Nat} {l : List Int} (h : w.ownsRow base 3 1 (.slice A n cc) n (l.map I)) (hn : 1 ≤ n) : ∃ U, A = some ⟨U, 0, none⟩ ∧ base ≤ U ∧ U < w.heap.size ∧ Rw1 w U l ∧ n ≤ cc := by
  have hl := h.1
  rcases h.2 with ⟨hh, h0⟩ | ⟨g, cap, cur, hh, hb, hg, hn2, hm, hs, ht⟩
  · omega
  · injection hh with hh _ hc
    subst hh hc
    refine ⟨g, rfl, hb, Blk.lt (show Blk w g _ cur from hg), ⟨cur.toList.drop (l.map I).length, ?_⟩, hn2⟩
    have : cur.toList = l.map I ++ cur.toList.drop (l.map I).length := by
      conv => lhs; rw [← List.take_append_drop (l.map I).length cur.toList]
      rw [show (l.map I).length = n * 1 from hl, ht]
    rw [← this]
    exact hg
theorem rnew_no (n : Int) (w : World) (h : ¬ (1 ≤ n ∧ n ≤ 64)) :
    Calls Try.prog 7 #[.int .i64 n] w fun e w' => e = .returned (.pointer none) ∧ w = w' := by
  go_enter Try.func7, Try.ntmps7
  go_wp2_with fail
  refine (within_no n 1 64 _ h).mono ?_
  rintro e w' ⟨rfl, rfl⟩
  go_wp2
  go_ret
  exact ⟨rfl, rfl⟩
set_option maxRecDepth 100000 in
set_option maxHeartbeats 2000000 in
theorem rnew_yes (n : Nat) (w : World) (h1 : 1 ≤ n) (h2 : n ≤ 64) :
    Calls Try.prog 7 #[.int .i64 n] w fun e w' => ∃ p V U D E c, e = .returned (.pointer (some ⟨p, 0, none⟩)) ∧ (∀ y ∈ [p, V, U, D, E], w.heap.size ≤ y) ∧ RI w' p V U D E c (Im.fresh n) ∧ Kept [] w w' := by
  have hmi : ∀ W : World, (Instr.makeSlice 29 (.int .i64 n) (.int .i64 n)).run Try.prog W = .ok (.slice (some ⟨W.heap.size, 0, none⟩) n n) (W.alloc (.cells ((List.replicate n (0 : Int)).map I).toArray 3)) := fun W => mk_ints n (by omega) W
  obtain ⟨m, hm⟩ : ∃ m, (n + 15 - 1) / 15 = m := ⟨_, rfl⟩
  have HM := hide hm
  have hm9 : m ≤ 9 := by omega
  have hmk : ∀ W : World, (Instr.makeSlice 46 (.int .i64 m) (.int .i64 m)).run Try.prog W = .ok (.slice (some ⟨W.heap.size, 0, none⟩) m m) (W.alloc (.cells (bv (List.replicate m false)).toArray 4)) := fun W => made_marks m (by omega) W
  obtain ⟨V, hV⟩ : ∃ V, w.heap.size = V := ⟨_, rfl⟩
  have HV := hide hV
  obtain ⟨w1, hw1⟩ : ∃ w1, w.alloc (.cells ((List.replicate n (0 : Int)).map I).toArray 3) = w1 := ⟨_, rfl⟩
  have HB1 := hide (show Blk w1 V 3 ((List.replicate n (0 : Int)).map I).toArray from by rw [← hw1, ← hV]; exact Blk.new w _ _)
  have k1 : Kept [] w w1 := by rw [← hw1]; exact (Kept.refl [] w).alloc _
  have z1 : w1.heap.size = V + 1 := by rw [← hw1]; simp [hV]
  obtain ⟨w2, hw2⟩ : ∃ w2, w1.alloc (.cells #[.slice (some ⟨V, 0, none⟩) n n, .slice none 0 0, .slice none 0 0, .slice none 0 0] 63) = w2 := ⟨_, rfl⟩
  have HB2 := hide (show Blk w2 (V + 1) 63 #[.slice (some ⟨V, 0, none⟩) n n, .slice none 0 0, .slice none 0 0, .slice none 0 0] from by rw [← hw2, ← z1]; exact Blk.new w1 _ _)
  have k2 : Kept [] w1 w2 := by rw [← hw2]; exact (Kept.refl [] w1).alloc _
  have z2 : w2.heap.size = V + 2 := by rw [← hw2]; simp [z1]
  have HBV2 := hide (k2.blk HB1.out (by simp))
  have HK2 := hide (k1.trans k2 (by simp))
  have HZ2 := hide z2
  have HW1 := hide hw1
  have HW2 := hide hw2
  clear hm k1 k2 z2
  go_enter Try.func7, Try.ntmps7
  go_wp2_with fail
  refine (within_yes n 1 64 _ ⟨by omega, by omega⟩).mono ?_
  rintro e w' ⟨rfl, rfl⟩
  go_upto_region 4 with fail
  rw [show (w.alloc (.cells (Array.replicate n (I 0)) 3)).alloc (.cells #[.slice (some ⟨V, 0, none⟩) n n, .slice none 0 0, .slice none 0 0, .slice none 0 0] 63) = w2 from by rw [← HW2.out, ← HW1.out]; simp]
  have HO0 := hide (show w2.ownsRow (V + 2) 3 1 (.slice none 0 0) 0 ((List.replicate 0 (-1 : Int)).map I) from World.ownsRow_nil _ _ _ _)
  clear hw1 hw2 hV z1 hmi
  go_wp2
  go_loopw [4] (fun i wr => ∃ (k : Nat) (A : Option Addr) (cc : Nat), k ≤ n ∧ i = .int .i64 k ∧ Hid (Blk wr (V + 1) 63 #[.slice (some ⟨V, 0, none⟩) n n, .slice A k cc, .slice none 0 0, .slice none 0 0]) ∧ Hid (wr.ownsRow (V + 2) 3 1 (.slice A k cc) k ((List.replicate k (-1 : Int)).map I)) ∧ Hid (Kept [V + 1] w2 wr)) (fun i _ => n - (intOf i).toNat)
  case atStart => exact ⟨0, none, 0, Nat.zero_le _, rfl, HB2, HO0, hide (Kept.refl _ _)⟩
  case round =>
    clear HO0
    obtain ⟨k, A, cc, hk, rfl, HBX, HO, HKR⟩ := hrel
    by_cases hlt : k < n
    · have c1 := HBX.out.cell 1
      have c1' : wr.cell? ⟨V + 1, 1, none⟩ = some (.slice A k cc) := c1
      have HOA := hide (fun o : Obj => HO.out.alloc o)
      have HSZ := hide (show V + 2 ≤ wr.heap.size from by have h1 := HKR.out.size; have h2 := HZ2.out; omega)
      clear c1
      go_wp2_with (at_builtin; refine wpList_append_vals rfl (.tmp 22) (.tmp 23) 29 rfl (V + 2) 3 (.int .i64 0) 1 8 Try.underlying29 base.int_info rfl (by omega) (.slice A k cc) k ((List.replicate k (-1 : Int)).map I) rfl (HOA.out _) [] _ 1 1 ([(-1 : Int)].map I) rfl (by simp) (base.vals_one _ [] _ _ (by simp)) (oneCell_I _) (by simp only [maxLen]; omega) (by omega) (by have := HSZ.out; simp; omega) ?_; intro v5 w5 hown5 hk5 hat5; obtain ⟨A5, cc5, rfl, _, _⟩ := own_read hown5; have HB5 := hide (hk5.blk (HBX.out.alloc _) (fun hm => by have := (own_blk HO.out _ hm).1; omega)); have f5 := HB5.out.frozen 1; have c5 : w5.cell? ⟨V + 1, 1, none⟩ = some (.slice A k cc) := HB5.out.cell 1)
      have HK5 := hide (((HKR.out.alloc _).trans hk5 (fun y hy => .inr (by have h1 := (own_blk HO.out y hy).1; have h2 := HZ2.out; omega))))
      obtain ⟨w6, hw6⟩ : ∃ w6, w5.setCell ⟨V + 1, 1, none⟩ (.slice A5 (k + 1) cc5) = w6 := ⟨_, rfl⟩
      have HB6 := hide (show Blk w6 (V + 1) 63 #[.slice (some ⟨V, 0, none⟩) n n, .slice A5 (k + 1) cc5, .slice none 0 0, .slice none 0 0] from by have := HB5.out.set_ 1 (.slice A5 (k + 1) cc5); rw [hw6] at this; simpa using this)
      have k6 : Kept [V + 1] w5 w6 := by rw [← hw6]; exact (Kept.refl _ w5).set_ (.inl (by simp)) 1 _
      have HO6 := hide (show w6.ownsRow (V + 2) 3 1 (.slice A5 (k + 1) cc5) (k + 1) ((List.replicate (k + 1) (-1 : Int)).map I) from by
        rw [List.replicate_succ', List.map_append]
        exact own_keep hown5 k6 (fun i hi hm => by have := (own_blk hown5 i hm).1; simp at hi; omega))
      have HK6 := hide (HK5.out.trans k6 (fun y hy => .inl hy))
      have HW6 := hide hw6
      clear hown5 hk5 hat5 k6 hw6
      go_wp2
      go_roundw
      case rel => exact ⟨k + 1, A5, cc5, by omega, by go_num, by rw [HW6.out]; exact HB6, by rw [HW6.out]; exact HO6, by rw [HW6.out]; exact HK6⟩
      case measure => simp [intOf]; omega
    · obtain rfl : k = n := by omega
      obtain ⟨U, rfl, hU1, hU2, hRU, hcc⟩ := own_rw1 HO.out h1
      have HRU := hide hRU
      have HRV := hide (show Rw1 wr V (List.replicate k (0 : Int)) from ⟨[], by rw [List.append_nil]; exact HKR.out.blk HBV2.out (by simp)⟩)
      have HUP := hide (fun W : World => up_any k 15 W h1 (by omega) (by omega) (by omega))
      rw [HM.out] at HUP
      have HKW := hide (show Kept [] w wr from HK2.out.trans HKR.out (fun y hy => .inr (by have := HV.out; simp at hy; omega)))
      clear hRU HO HBV2 HB1 HB2
      go_wp2_with fail
      refine (HUP.out _).mono ?_
      rintro e w' ⟨rfl, rfl⟩
      obtain ⟨wd, hwd⟩ : ∃ wd, wr.drew = wd := ⟨_, rfl⟩
      have kd : Kept [] wr wd := by rw [← hwd]; exact (Kept.refl [] wr).drew
      have HBd := hide (kd.blk HBX.out (by simp))
      have HKd := hide kd
      obtain ⟨D, hD⟩ : ∃ D, wd.heap.size = D := ⟨_, rfl⟩
      have HUD := hide (show U < D ∧ V + 1 < D from by have h1 := kd.size; have h2 := HBd.out.lt; omega)
      obtain ⟨w7, hw7⟩ : ∃ w7, wd.alloc (.cells (bv (List.replicate m false)).toArray 4) = w7 := ⟨_, rfl⟩
      have HB7 := hide (show Blk w7 D 4 (bv (List.replicate m false)).toArray from by rw [← hw7, ← hD]; exact Blk.new wd _ _)
      have k7 : Kept [] wd w7 := by rw [← hw7]; exact (Kept.refl [] wd).alloc _
      have HBX7 := hide (k7.blk HBd.out (by simp))
      have HK7 := hide (kd.trans k7 (by simp))
      have HW7 := hide hw7
      have HDD := hide hD
      clear kd k7 hw7 hD
      go_wp2
      refine wp_region_noPanic ?_
      refine wp_region_held_drew (S := fun _ => True) (by kernel_rfl) (by trivial) (fun hHeld => ?_)
      refine wpAnyH_take (i := 0) (oi := ⟨some 29, _, _, _, _, _⟩) (v := ?v33) rfl (by kernel_rfl) (by kernel_rfl) (by kernel_rfl) (fun _ _ _ h => h) (Or.inl ⟨by rfl, ?hy33⟩) (by assumption) ?rest33
      case hy33 => (intro W hSw; (try dsimp only at hSw); go_simp; try with_reducible rfl)
      try simp only [Act.put, List.setIfInBounds_toArray, List.set_cons_zero, List.set_cons_succ]
      refine wpAnyH_take (i := 1) (oi := ⟨some 30, _, _, _, _, _⟩) (v := ?v34) rfl (by kernel_rfl) (by kernel_rfl) (by kernel_rfl) (fun _ _ _ h => h) (Or.inl ⟨by rfl, ?hy34⟩) (by assumption) ?rest34
      case hy34 => (intro W hSw; (try dsimp only at hSw); go_simp; try with_reducible rfl)
      try simp only [Act.put, List.setIfInBounds_toArray, List.set_cons_zero, List.set_cons_succ]
      refine wpAnyH_take (i := 3) (oi := ⟨some 32, _, _, _, _, _⟩) (v := ?v35) rfl (by kernel_rfl) (by kernel_rfl) (by kernel_rfl) (fun _ _ _ h => h) (Or.inl ⟨by rfl, ?hy35⟩) (by assumption) ?rest35
      case hy35 => (intro W hSw; (try dsimp only at hSw); go_simp; try with_reducible rfl)
      try simp only [Act.put, List.setIfInBounds_toArray, List.set_cons_zero, List.set_cons_succ]
      refine wpAnyH_take (i := 4) (oi := ⟨some 33, _, _, _, _, _⟩) (v := ?v36) rfl (by kernel_rfl) (by kernel_rfl) (by kernel_rfl) (fun _ _ _ h => h) (Or.inl ⟨by rfl, ?hy36⟩) (by assumption) ?rest36
      case hy36 => (intro W hSw; (try dsimp only at hSw); go_simp; try with_reducible rfl)
      try simp only [Act.put, List.setIfInBounds_toArray, List.set_cons_zero, List.set_cons_succ]
      refine held_one (i := 2) (o := ⟨some 31, _, _, _, _, _⟩) rfl (by kernel_rfl) (by rfl) (fun K hK => ?_)
      (try rw [hwd])
      go_simp
      rw [HW7.out, HDD.out]
      have x2 := HBX7.out.cell 2
      have fz := HBX7.out.frozen 2
      refine hK.out _ _ (by exact trivial) (fun hHeld => ?_)
      clear hK K
      try simp only [Act.put, List.setIfInBounds_toArray, List.set_cons_zero, List.set_cons_succ]
      refine wpAnyH_take (i := 5) (oi := ⟨some 34, _, _, _, _, _⟩) (v := ?v37) rfl (by kernel_rfl) (by kernel_rfl) (by kernel_rfl) (fun _ _ _ h => h) (Or.inl ⟨by rfl, ?hy37⟩) (by assumption) ?rest37
      case hy37 => (intro W hSw; (try dsimp only at hSw); go_simp; try with_reducible rfl)
      try simp only [Act.put, List.setIfInBounds_toArray, List.set_cons_zero, List.set_cons_succ]
      refine held_one (i := 6) (o := ⟨none, _, _, _, _, _⟩) rfl (by kernel_rfl) (by rfl) (fun K hK => ?_)
      go_simp
      refine hK.out _ _ (by exact trivial) (fun hHeld => ?_)
      clear hK K
      try simp only [Act.put, List.setIfInBounds_toArray, List.set_cons_zero, List.set_cons_succ]
      refine wpAnyH_done (by kernel_rfl) ?_ _
      refine NoPanic.normal ?_
      obtain ⟨w8, hw8⟩ : ∃ w8, w7.setCell ⟨V + 1, 2, none⟩ (.slice (some ⟨D, 0, none⟩) m m) = w8 := ⟨_, rfl⟩
      have HBX8 := hide (show Blk w8 (V + 1) 63 #[.slice (some ⟨V, 0, none⟩) k k, .slice (some ⟨U, 0, none⟩) k cc, .slice (some ⟨D, 0, none⟩) m m, .slice none 0 0] from by have := HBX7.out.set_ 2 (.slice (some ⟨D, 0, none⟩) m m); rw [hw8] at this; simpa using this)
      have k8 : Kept [V + 1] w7 w8 := by rw [← hw8]; exact (Kept.refl _ w7).set_ (.inl (by simp)) 2 _
      have HK8 := hide ((HK7.out.mono (S' := [V + 1]) (by simp)).trans k8 (fun y hy => .inl hy))
      have HB8 := hide (k8.blk HB7.out (by simp; have := HUD.out; omega))
      rw [hw8]
      clear hw8 k8 x2 fz hHeld hwd
      obtain ⟨we, hwe⟩ : ∃ we, w8.drew = we := ⟨_, rfl⟩
      have ke : Kept [] w8 we := by rw [← hwe]; exact (Kept.refl [] w8).drew
      have HBXe := hide (ke.blk HBX8.out (by simp))
      obtain ⟨E, hE⟩ : ∃ E, we.heap.size = E := ⟨_, rfl⟩
      have HDE := hide (show D < E from by have h1 := ke.size; have h2 := HB8.out.lt; omega)
      obtain ⟨w9, hw9⟩ : ∃ w9, we.alloc (.cells (bv (List.replicate m false)).toArray 4) = w9 := ⟨_, rfl⟩
      have HB9 := hide (show Blk w9 E 4 (bv (List.replicate m false)).toArray from by rw [← hw9, ← hE]; exact Blk.new we _ _)
      have k9 : Kept [] we w9 := by rw [← hw9]; exact (Kept.refl [] we).alloc _
      have HBX9 := hide (k9.blk HBXe.out (by simp))
      have HK9 := hide ((HK8.out.trans ke (by simp)).trans k9 (by simp))
      have HBD9 := hide (k9.blk (ke.blk HB8.out (by simp)) (by simp))
      have HW9 := hide hw9
      have HEE := hide hE
      clear ke k9 hw9 hE
      go_wp2
      refine wp_region_noPanic ?_
      refine wp_region_held_drew (S := fun _ => True) (by kernel_rfl) (by trivial) (fun hHeld => ?_)
      refine wpAnyH_take (i := 0) (oi := ⟨some 35, _, _, _, _, _⟩) (v := ?v38) rfl (by kernel_rfl) (by kernel_rfl) (by kernel_rfl) (fun _ _ _ h => h) (Or.inl ⟨by rfl, ?hy38⟩) (by assumption) ?rest38
      case hy38 => (intro W hSw; (try dsimp only at hSw); go_simp; try with_reducible rfl)
      try simp only [Act.put, List.setIfInBounds_toArray, List.set_cons_zero, List.set_cons_succ]
      refine wpAnyH_take (i := 1) (oi := ⟨some 36, _, _, _, _, _⟩) (v := ?v39) rfl (by kernel_rfl) (by kernel_rfl) (by kernel_rfl) (fun _ _ _ h => h) (Or.inl ⟨by rfl, ?hy39⟩) (by assumption) ?rest39
      case hy39 => (intro W hSw; (try dsimp only at hSw); go_simp; try with_reducible rfl)
      try simp only [Act.put, List.setIfInBounds_toArray, List.set_cons_zero, List.set_cons_succ]
      refine wpAnyH_take (i := 3) (oi := ⟨some 38, _, _, _, _, _⟩) (v := ?v40) rfl (by kernel_rfl) (by kernel_rfl) (by kernel_rfl) (fun _ _ _ h => h) (Or.inl ⟨by rfl, ?hy40⟩) (by assumption) ?rest40
      case hy40 => (intro W hSw; (try dsimp only at hSw); go_simp; try with_reducible rfl)
      try simp only [Act.put, List.setIfInBounds_toArray, List.set_cons_zero, List.set_cons_succ]
      refine wpAnyH_take (i := 4) (oi := ⟨some 39, _, _, _, _, _⟩) (v := ?v41) rfl (by kernel_rfl) (by kernel_rfl) (by kernel_rfl) (fun _ _ _ h => h) (Or.inl ⟨by rfl, ?hy41⟩) (by assumption) ?rest41
      case hy41 => (intro W hSw; (try dsimp only at hSw); go_simp; try with_reducible rfl)
      try simp only [Act.put, List.setIfInBounds_toArray, List.set_cons_zero, List.set_cons_succ]
      refine held_one (i := 2) (o := ⟨some 37, _, _, _, _, _⟩) rfl (by kernel_rfl) (by rfl) (fun K hK => ?_)
      (try rw [hwe])
      go_simp
      rw [HW9.out, HEE.out]
      have x3 := HBX9.out.cell 3
      have fz := HBX9.out.frozen 3
      refine hK.out _ _ (by exact trivial) (fun hHeld => ?_)
      clear hK K
      try simp only [Act.put, List.setIfInBounds_toArray, List.set_cons_zero, List.set_cons_succ]
      refine wpAnyH_take (i := 5) (oi := ⟨some 40, _, _, _, _, _⟩) (v := ?v42) rfl (by kernel_rfl) (by kernel_rfl) (by kernel_rfl) (fun _ _ _ h => h) (Or.inl ⟨by rfl, ?hy42⟩) (by assumption) ?rest42
      case hy42 => (intro W hSw; (try dsimp only at hSw); go_simp; try with_reducible rfl)
      try simp only [Act.put, List.setIfInBounds_toArray, List.set_cons_zero, List.set_cons_succ]
      refine held_one (i := 6) (o := ⟨none, _, _, _, _, _⟩) rfl (by kernel_rfl) (by rfl) (fun K hK => ?_)
      go_simp
      refine hK.out _ _ (by exact trivial) (fun hHeld => ?_)
      clear hK K
      try simp only [Act.put, List.setIfInBounds_toArray, List.set_cons_zero, List.set_cons_succ]
      refine wpAnyH_done (by kernel_rfl) ?_ _
      refine NoPanic.normal ?_
      obtain ⟨wf, hwf⟩ : ∃ wf, w9.setCell ⟨V + 1, 3, none⟩ (.slice (some ⟨E, 0, none⟩) m m) = wf := ⟨_, rfl⟩
      have HBXf := hide (show Blk wf (V + 1) 63 #[.slice (some ⟨V, 0, none⟩) k k, .slice (some ⟨U, 0, none⟩) k cc, .slice (some ⟨D, 0, none⟩) m m, .slice (some ⟨E, 0, none⟩) m m] from by have := HBX9.out.set_ 3 (.slice (some ⟨E, 0, none⟩) m m); rw [hwf] at this; simpa using this)
      have kf : Kept [V + 1] w9 wf := by rw [← hwf]; exact (Kept.refl _ w9).set_ (.inl (by simp)) 3 _
      have HKf := hide (HK9.out.trans kf (fun y hy => .inl hy))
      have HBDf := hide (kf.blk HBD9.out (by simp; have := HUD.out; omega))
      have HBEf := hide (kf.blk HB9.out (by simp; have := HUD.out; have := HDE.out; omega))
      rw [hwf]
      clear hwf kf x3 fz hHeld hwe
      go_wp2
      go_ret
      have g1 := HUD.out
      have g2 := HDE.out
      have g3 := HV.out
      have e1 : (Im.fresh k).b.l.length = k := by simp [Im.fresh]
      have e2 : (Im.fresh k).b.d.length = m := by simp [Im.fresh]; exact HM.out
      refine ⟨V + 1, V, U, D, E, cc, rfl, ?_, ⟨?_, HRV.out.kept HKf.out (by simp), HRU.out.kept HKf.out (by simp; omega), ?_, ?_, by simp [Im.fresh], by simp [Im.fresh], by simp [Im.fresh], by rw [e1]; exact ⟨h1, h2⟩, by rw [e1]; exact hcc, ?_⟩, HKW.out.trans HKf.out (fun y hy => .inr (by simp at hy; omega))⟩
      · intro y hy
        simp only [List.mem_cons, List.not_mem_nil, or_false] at hy
        rcases hy with rfl | rfl | rfl | rfl | rfl <;> omega
      · rw [e1, e2]; exact HBXf.out
      · show Blk _ D _ (bv (List.replicate ((k + 15 - 1) / 15) false)).toArray; rw [HM.out]; exact HBDf.out
      · show Blk _ E _ (bv (List.replicate ((k + 15 - 1) / 15) false)).toArray; rw [HM.out]; exact HBEf.out
      · simp only [List.nodup_cons, List.mem_cons, List.not_mem_nil, or_false, not_or]
        exact ⟨⟨by omega, by omega, by omega, by omega⟩, ⟨by omega, by omega, by omega⟩, ⟨by omega, by omega⟩, by omega, by simp⟩
end Go.Proofs.Ytfeepmahipecpaa.im
