/- The laws' made. -/
import Derived.Test.YtbglcnpkajkkpaaSuperAwake
import Derived.Test.YtbglcnpkajkkpaaConfig
namespace Go.Proofs.Ytbglcnpkajkkpaa.super
open Go.RowKit Go.Proofs.Ytbglcnpkajkkpaa.mem Go.Proofs.Ytbglcnpkajkkpaa.base

set_option maxRecDepth 100000 in
theorem made_any (x y z i m : Int) (w : World) :
    Calls Try.prog 15 #[.agg #[.int .i64 x, .int .i64 y, .int .i64 z], .int .i64 i, .int .i64 m] w fun e w' => ∃ S : Su, e = .returned S.val ∧ S.may = true ∧ Kept [] w w' := by
  obtain ⟨w1, hw1⟩ : ∃ w1, w.alloc (.cells #[.int .i64 x, .int .i64 y, .int .i64 z] 40) = w1 := ⟨_, rfl⟩
  have hk1 : Kept [] w w1 := by rw [← hw1]; exact (Kept.refl [] w).alloc _
  have hb1 : Blk w1 w.heap.size 40 #[.int .i64 x, .int .i64 y, .int .i64 z] := by rw [← hw1]; exact Blk.new w _ _
  have c0 := hb1.cell 0
  have c1 := hb1.cell 1
  have c2 := hb1.cell 2
  obtain ⟨p, hp⟩ : ∃ p, i % 2147483648 = p := ⟨_, rfl⟩
  obtain ⟨q, hq⟩ : ∃ q, m % 2147483647 = q := ⟨_, rfl⟩
  have hp1 : 0 ≤ p ∧ p ≤ 2147483647 := by omega
  have hq1 : 0 ≤ q ∧ q ≤ 2147483646 := by omega
  have HP := hide hp
  have HQ := hide hq
  clear hp hq
  have g1 : IntKind.i64.wrap (1 + q) = 1 + q := IntWalk.i64_in _ (by omega)
  have hl := hb1.lt
  obtain ⟨a, ha⟩ : ∃ a, w.heap.size = a := ⟨_, rfl⟩
  rw [ha] at hb1 c0 c1 c2 hl
  have HK1 := hide hk1
  have HB1 := hide hb1
  have hk2 : Kept [] w1 (w1.alloc (.cells Su.zero.cells 25)) := (Kept.refl [] w1).alloc _
  have hbb := Blk.new w1 25 Su.zero.cells
  obtain ⟨g, hg⟩ : ∃ g, w1.heap.size = g := ⟨_, rfl⟩
  rw [hg] at hbb
  have HK2 := hide (hk1.trans hk2 (by simp))
  have HB2 := hide hbb
  have HG : Hid (w.heap.size ≤ g) := hide (by omega)
  clear hb1 hk1 hk2 hbb c0 c1 c2
  obtain ⟨c0, c1, c2⟩ : ((w1.alloc (.cells Su.zero.cells 25)).cell? ⟨a, 0, none⟩ = some (.int .i64 x) ∧ (w1.alloc (.cells Su.zero.cells 25)).cell? ⟨a, 1, none⟩ = some (.int .i64 y) ∧ (w1.alloc (.cells Su.zero.cells 25)).cell? ⟨a, 2, none⟩ = some (.int .i64 z)) :=
    ⟨(HB1.out.alloc _).cell 0, (HB1.out.alloc _).cell 1, (HB1.out.alloc _).cell 2⟩
  obtain ⟨w2, hw2⟩ : ∃ w2, w1.alloc (.cells Su.zero.cells 25) = w2 := ⟨_, rfl⟩
  rw [hw2] at HK2 HB2 c0 c1 c2
  unfold Su.cells Su.zero at hw2
  dsimp only at hw2
  clear HB1 HK1
  go_enter Try.func15, Try.ntmps15
  go_wp2_with fail
  refine (base.config_any x y z _).mono ?_
  rintro e w3 ⟨k, s, l, rfl, hok, hk⟩
  have HK3 := hide (HK2.out.trans hk (by simp))
  have HB3 := hide (hk.blk HB2.out (by simp))
  clear hk c0 c1 c2 HK2 HB2 hw1 hw2
  go_wp2_with fail
  refine (round_any i 2147483648 _ (by omega) (by omega)).mono ?_
  rintro e w4 ⟨rfl, rfl⟩
  rw [HP.out]
  go_wp2_with fail
  refine (round_any m 2147483647 _ (by omega) (by omega)).mono ?_
  rintro e w4 ⟨rfl, rfl⟩
  rw [HQ.out]
  have f0 := HB3.out.frozen 0
  have f1 := HB3.out.frozen 1
  have f2 := HB3.out.frozen 2
  have f3 := HB3.out.frozen 3
  have f4 := HB3.out.frozen 4
  obtain ⟨d0, d1, d2, d3, d4⟩ := Su.cell_at HB3.out
  have hbw := hide (Su.put_at k s l p (1 + q) HB3.out)
  have hkw := hide (Su.put_kept (S := []) k s l p (1 + q) HK3.out (.inr HG.out))
  go_wp2
  generalize (((((w3.setCell ⟨g, 0, none⟩ (.int .i64 k)).setCell ⟨g, 1, none⟩ (.int .i64 s)).setCell ⟨g, 2, none⟩ (.int .i64 l)).setCell ⟨g, 3, none⟩ (.int .i64 p)).setCell ⟨g, 4, none⟩ (.int .i64 (1 + q))) = W at hbw hkw ⊢
  obtain ⟨t0, t1, t2, t3, t4⟩ := Su.cell_at hbw.out
  refine bodyPost_ret (v := Su.val ⟨k, s, l, p, 1 + q⟩) ?_ rfl ⟨⟨k, s, l, p, 1 + q⟩, rfl, (Su.may_iff _).2 ⟨hok.1, hok.2.1, hok.2.2, hp1, by dsimp only; omega⟩, hkw.out⟩
  simp [results, Try.results15, go_sem, t0, t1, t2, t3, t4, Su.val]
end Go.Proofs.Ytbglcnpkajkkpaa.super
