/- The laws' made; many of them. -/
import Derived.Test.YtbghkfjjmgmjmaaItemMem
import Derived.Test.YtbghkfjjmgmjmaaAlike
namespace Go.Proofs.Ytbghkfjjmgmjmaa.item
open Go.RowKit Go.Proofs.Ytbghkfjjmgmjmaa.mem Go.Proofs.Ytbghkfjjmgmjmaa.base

/-- The item that is made of a kind and three numbers. -/
def madeOf (x : It) : It :=
  let b := x.b % 64
  if x.k % 7 = 0 then ⟨1, b, 0, 0⟩ else if x.k % 7 = 1 then ⟨2, b, 1 + x.c % (64 - b), 0⟩ else if x.k % 7 = 2 then ⟨3, 0, 0, 1 + x.v % 2147483647⟩ else
  if x.k % 7 = 3 then ⟨4, b, 0, 1 + x.v % 4095⟩ else if x.k % 7 = 4 then ⟨5, b, 0, 0⟩ else if x.k % 7 = 5 then ⟨6, b, 1 + x.c % (64 - b), 0⟩ else ⟨7, 0, 0, x.v % 32⟩
theorem madeOf_may (x : It) : (madeOf x).may = true := by
  obtain ⟨k, b, c, v⟩ := x
  have hb1 := Int.emod_nonneg b (show (64 : Int) ≠ 0 by omega)
  have hb2 := Int.emod_lt_of_pos b (show (0 : Int) < 64 by omega)
  have hc1 := Int.emod_nonneg c (show (64 - b % 64 : Int) ≠ 0 by omega)
  have hc2 := Int.emod_lt_of_pos c (show (0 : Int) < 64 - b % 64 by omega)
  have hv1 := Int.emod_nonneg v (show (2147483647 : Int) ≠ 0 by omega)
  have hv2 := Int.emod_lt_of_pos v (show (0 : Int) < 2147483647 by omega)
  have hv3 := Int.emod_nonneg v (show (4095 : Int) ≠ 0 by omega)
  have hv4 := Int.emod_lt_of_pos v (show (0 : Int) < 4095 by omega)
  have hv5 := Int.emod_nonneg v (show (32 : Int) ≠ 0 by omega)
  have hv6 := Int.emod_lt_of_pos v (show (0 : Int) < 32 by omega)
  unfold madeOf
  dsimp only
  generalize c % (64 - b % 64) = c' at *
  generalize b % 64 = b' at *
  generalize v % 2147483647 = v1 at *
  generalize v % 4095 = v2 at *
  generalize v % 32 = v3 at *
  split
  · exact (may_iff4 _ _ _ _).2 (by omega)
  split
  · exact (may_iff4 _ _ _ _).2 (by omega)
  split
  · exact (may_iff4 _ _ _ _).2 (by omega)
  split
  · exact (may_iff4 _ _ _ _).2 (by omega)
  split
  · exact (may_iff4 _ _ _ _).2 (by omega)
  split
  · exact (may_iff4 _ _ _ _).2 (by omega)
  · exact (may_iff4 _ _ _ _).2 (by omega)

set_option maxRecDepth 100000 in
theorem made_0 (k b c v : Int) (w : World) (hk : k % 7 = 0) :
    Calls Try.prog 18 #[.agg #[.int .i64 k, .int .i64 b, .int .i64 c, .int .i64 v]] w fun e w' => e = .returned (It.val ⟨1, (b % 64), 0, 0⟩) ∧ Kept [] w w' := by
  have hb1 := Int.emod_nonneg b (show (64 : Int) ≠ 0 by omega)
  have hb2 := Int.emod_lt_of_pos b (show (0 : Int) < 64 by omega)
  have HK := hide hk
  clear hk
  obtain ⟨q, hq⟩ : ∃ q, w.heap.size = q := ⟨_, rfl⟩
  obtain ⟨g, hg⟩ : ∃ g, q + 1 = g := ⟨_, rfl⟩
  obtain ⟨w1, hw1⟩ : ∃ w1, w.alloc (.cells #[.int .i64 k, .int .i64 b, .int .i64 c, .int .i64 v] 43) = w1 := ⟨_, rfl⟩
  have ha1 : Blk w1 q 43 #[.int .i64 k, .int .i64 b, .int .i64 c, .int .i64 v] := by rw [← hw1, ← hq]; exact Blk.new w _ _
  have hs1 : w1.heap.size = g := by rw [← hw1]; simp; omega
  have hk1 : Kept [] w w1 := by rw [← hw1]; exact (Kept.refl [] w).alloc _
  obtain ⟨w2, hw2⟩ : ∃ w2, w1.alloc (.cells It.zero.cells 26) = w2 := ⟨_, rfl⟩
  have ha2 : Blk w2 q 43 #[.int .i64 k, .int .i64 b, .int .i64 c, .int .i64 v] := by rw [← hw2]; exact ha1.alloc _
  have hb2' : Blk w2 w1.heap.size 26 It.zero.cells := by rw [← hw2]; exact Blk.new w1 _ _
  rw [hs1] at hb2'
  have hk2 : Kept [] w w2 := by rw [← hw2]; exact hk1.alloc (.cells It.zero.cells 26)
  have c0 : w2.cell? ⟨q, 0, none⟩ = some (.int .i64 k) := ha2.cell 0
  have c1 : w2.cell? ⟨q, 1, none⟩ = some (.int .i64 b) := ha2.cell 1
  have c2 : w2.cell? ⟨q, 2, none⟩ = some (.int .i64 c) := ha2.cell 2
  have c3 : w2.cell? ⟨q, 3, none⟩ = some (.int .i64 v) := ha2.cell 3
  obtain ⟨d0, d1, d2, d3⟩ := It.cell_at hb2'
  have f0 := hb2'.frozen 0
  have f1 := hb2'.frozen 1
  have f2 := hb2'.frozen 2
  have f3 := hb2'.frozen 3
  have hbw := hide (It.put_at 1 (b % 64) 0 0 hb2')
  have hkw := hide (It.put_kept (S := []) 1 (b % 64) 0 0 hk2 (g := g) (.inr (by omega)))
  clear ha1 ha2 hb2' hk1 hk2
  unfold It.zero It.cells at hw2
  dsimp only at hw2
  go_enter Try.func18, Try.ntmps18
  go_wp2_with fail
  refine (base.round_any b 64 _ (by omega) (by omega)).mono ?_
  rintro e w3 ⟨rfl, rfl⟩
  go_wp2_with fail
  refine (base.round_any k 7 _ (by omega) (by omega)).mono ?_
  rintro e w3 ⟨rfl, rfl⟩
  rw [HK.out]
  go_wp2
  generalize ((((w2.setCell ⟨g, 0, none⟩ (.int .i64 1)).setCell ⟨g, 1, none⟩ (.int .i64 (b % 64))).setCell ⟨g, 2, none⟩ (.int .i64 0)).setCell ⟨g, 3, none⟩ (.int .i64 0)) = W at hbw hkw ⊢
  obtain ⟨t0, t1, t2, t3⟩ := It.cell_at hbw.out
  refine bodyPost_ret (v := It.val ⟨1, (b % 64), 0, 0⟩) ?_ rfl ⟨rfl, hkw.out⟩
  simp [results, Try.results18, go_sem, t0, t1, t2, t3, It.val]

set_option maxRecDepth 100000 in
theorem made_1 (k b c v : Int) (w : World) (hk : k % 7 = 1) :
    Calls Try.prog 18 #[.agg #[.int .i64 k, .int .i64 b, .int .i64 c, .int .i64 v]] w fun e w' => e = .returned (It.val ⟨2, (b % 64), (1 + c % (64 - b % 64)), 0⟩) ∧ Kept [] w w' := by
  have hb1 := Int.emod_nonneg b (show (64 : Int) ≠ 0 by omega)
  have hb2 := Int.emod_lt_of_pos b (show (0 : Int) < 64 by omega)
  have HK := hide hk
  clear hk
  obtain ⟨q, hq⟩ : ∃ q, w.heap.size = q := ⟨_, rfl⟩
  obtain ⟨g, hg⟩ : ∃ g, q + 1 = g := ⟨_, rfl⟩
  obtain ⟨w1, hw1⟩ : ∃ w1, w.alloc (.cells #[.int .i64 k, .int .i64 b, .int .i64 c, .int .i64 v] 43) = w1 := ⟨_, rfl⟩
  have ha1 : Blk w1 q 43 #[.int .i64 k, .int .i64 b, .int .i64 c, .int .i64 v] := by rw [← hw1, ← hq]; exact Blk.new w _ _
  have hs1 : w1.heap.size = g := by rw [← hw1]; simp; omega
  have hk1 : Kept [] w w1 := by rw [← hw1]; exact (Kept.refl [] w).alloc _
  obtain ⟨w2, hw2⟩ : ∃ w2, w1.alloc (.cells It.zero.cells 26) = w2 := ⟨_, rfl⟩
  have ha2 : Blk w2 q 43 #[.int .i64 k, .int .i64 b, .int .i64 c, .int .i64 v] := by rw [← hw2]; exact ha1.alloc _
  have hb2' : Blk w2 w1.heap.size 26 It.zero.cells := by rw [← hw2]; exact Blk.new w1 _ _
  rw [hs1] at hb2'
  have hk2 : Kept [] w w2 := by rw [← hw2]; exact hk1.alloc (.cells It.zero.cells 26)
  have c0 : w2.cell? ⟨q, 0, none⟩ = some (.int .i64 k) := ha2.cell 0
  have c1 : w2.cell? ⟨q, 1, none⟩ = some (.int .i64 b) := ha2.cell 1
  have c2 : w2.cell? ⟨q, 2, none⟩ = some (.int .i64 c) := ha2.cell 2
  have c3 : w2.cell? ⟨q, 3, none⟩ = some (.int .i64 v) := ha2.cell 3
  obtain ⟨d0, d1, d2, d3⟩ := It.cell_at hb2'
  have f0 := hb2'.frozen 0
  have f1 := hb2'.frozen 1
  have f2 := hb2'.frozen 2
  have f3 := hb2'.frozen 3
  have hbw := hide (It.put_at 2 (b % 64) (1 + c % (64 - b % 64)) 0 hb2')
  have hkw := hide (It.put_kept (S := []) 2 (b % 64) (1 + c % (64 - b % 64)) 0 hk2 (g := g) (.inr (by omega)))
  clear ha1 ha2 hb2' hk1 hk2
  unfold It.zero It.cells at hw2
  dsimp only at hw2
  go_enter Try.func18, Try.ntmps18
  go_wp2_with fail
  refine (base.round_any b 64 _ (by omega) (by omega)).mono ?_
  rintro e w3 ⟨rfl, rfl⟩
  go_wp2_with fail
  refine (base.round_any k 7 _ (by omega) (by omega)).mono ?_
  rintro e w3 ⟨rfl, rfl⟩
  rw [HK.out]
  have hr1 := Int.emod_nonneg c (show ((64 - b % 64) : Int) ≠ 0 by omega)
  have hr2 := Int.emod_lt_of_pos c (show (0 : Int) < (64 - b % 64) by omega)
  go_wp2_with fail
  refine (base.round_any c (64 - b % 64) _ (by omega) (by omega)).mono ?_
  rintro e w3 ⟨rfl, rfl⟩
  go_wp2
  generalize ((((w2.setCell ⟨g, 0, none⟩ (.int .i64 2)).setCell ⟨g, 1, none⟩ (.int .i64 (b % 64))).setCell ⟨g, 2, none⟩ (.int .i64 (1 + c % (64 - b % 64)))).setCell ⟨g, 3, none⟩ (.int .i64 0)) = W at hbw hkw ⊢
  obtain ⟨t0, t1, t2, t3⟩ := It.cell_at hbw.out
  refine bodyPost_ret (v := It.val ⟨2, (b % 64), (1 + c % (64 - b % 64)), 0⟩) ?_ rfl ⟨rfl, hkw.out⟩
  simp [results, Try.results18, go_sem, t0, t1, t2, t3, It.val]

set_option maxRecDepth 100000 in
theorem made_2 (k b c v : Int) (w : World) (hk : k % 7 = 2) :
    Calls Try.prog 18 #[.agg #[.int .i64 k, .int .i64 b, .int .i64 c, .int .i64 v]] w fun e w' => e = .returned (It.val ⟨3, 0, 0, (1 + v % 2147483647)⟩) ∧ Kept [] w w' := by
  have hb1 := Int.emod_nonneg b (show (64 : Int) ≠ 0 by omega)
  have hb2 := Int.emod_lt_of_pos b (show (0 : Int) < 64 by omega)
  have HK := hide hk
  clear hk
  obtain ⟨q, hq⟩ : ∃ q, w.heap.size = q := ⟨_, rfl⟩
  obtain ⟨g, hg⟩ : ∃ g, q + 1 = g := ⟨_, rfl⟩
  obtain ⟨w1, hw1⟩ : ∃ w1, w.alloc (.cells #[.int .i64 k, .int .i64 b, .int .i64 c, .int .i64 v] 43) = w1 := ⟨_, rfl⟩
  have ha1 : Blk w1 q 43 #[.int .i64 k, .int .i64 b, .int .i64 c, .int .i64 v] := by rw [← hw1, ← hq]; exact Blk.new w _ _
  have hs1 : w1.heap.size = g := by rw [← hw1]; simp; omega
  have hk1 : Kept [] w w1 := by rw [← hw1]; exact (Kept.refl [] w).alloc _
  obtain ⟨w2, hw2⟩ : ∃ w2, w1.alloc (.cells It.zero.cells 26) = w2 := ⟨_, rfl⟩
  have ha2 : Blk w2 q 43 #[.int .i64 k, .int .i64 b, .int .i64 c, .int .i64 v] := by rw [← hw2]; exact ha1.alloc _
  have hb2' : Blk w2 w1.heap.size 26 It.zero.cells := by rw [← hw2]; exact Blk.new w1 _ _
  rw [hs1] at hb2'
  have hk2 : Kept [] w w2 := by rw [← hw2]; exact hk1.alloc (.cells It.zero.cells 26)
  have c0 : w2.cell? ⟨q, 0, none⟩ = some (.int .i64 k) := ha2.cell 0
  have c1 : w2.cell? ⟨q, 1, none⟩ = some (.int .i64 b) := ha2.cell 1
  have c2 : w2.cell? ⟨q, 2, none⟩ = some (.int .i64 c) := ha2.cell 2
  have c3 : w2.cell? ⟨q, 3, none⟩ = some (.int .i64 v) := ha2.cell 3
  obtain ⟨d0, d1, d2, d3⟩ := It.cell_at hb2'
  have f0 := hb2'.frozen 0
  have f1 := hb2'.frozen 1
  have f2 := hb2'.frozen 2
  have f3 := hb2'.frozen 3
  have hbw := hide (It.put_at 3 0 0 (1 + v % 2147483647) hb2')
  have hkw := hide (It.put_kept (S := []) 3 0 0 (1 + v % 2147483647) hk2 (g := g) (.inr (by omega)))
  clear ha1 ha2 hb2' hk1 hk2
  unfold It.zero It.cells at hw2
  dsimp only at hw2
  go_enter Try.func18, Try.ntmps18
  go_wp2_with fail
  refine (base.round_any b 64 _ (by omega) (by omega)).mono ?_
  rintro e w3 ⟨rfl, rfl⟩
  go_wp2_with fail
  refine (base.round_any k 7 _ (by omega) (by omega)).mono ?_
  rintro e w3 ⟨rfl, rfl⟩
  rw [HK.out]
  have hr1 := Int.emod_nonneg v (show (2147483647 : Int) ≠ 0 by omega)
  have hr2 := Int.emod_lt_of_pos v (show (0 : Int) < 2147483647 by omega)
  go_wp2_with fail
  refine (base.round_any v 2147483647 _ (by omega) (by omega)).mono ?_
  rintro e w3 ⟨rfl, rfl⟩
  go_wp2
  generalize ((((w2.setCell ⟨g, 0, none⟩ (.int .i64 3)).setCell ⟨g, 1, none⟩ (.int .i64 0)).setCell ⟨g, 2, none⟩ (.int .i64 0)).setCell ⟨g, 3, none⟩ (.int .i64 (1 + v % 2147483647))) = W at hbw hkw ⊢
  obtain ⟨t0, t1, t2, t3⟩ := It.cell_at hbw.out
  refine bodyPost_ret (v := It.val ⟨3, 0, 0, (1 + v % 2147483647)⟩) ?_ rfl ⟨rfl, hkw.out⟩
  simp [results, Try.results18, go_sem, t0, t1, t2, t3, It.val]

set_option maxRecDepth 100000 in
theorem made_3 (k b c v : Int) (w : World) (hk : k % 7 = 3) :
    Calls Try.prog 18 #[.agg #[.int .i64 k, .int .i64 b, .int .i64 c, .int .i64 v]] w fun e w' => e = .returned (It.val ⟨4, (b % 64), 0, (1 + v % 4095)⟩) ∧ Kept [] w w' := by
  have hb1 := Int.emod_nonneg b (show (64 : Int) ≠ 0 by omega)
  have hb2 := Int.emod_lt_of_pos b (show (0 : Int) < 64 by omega)
  have HK := hide hk
  clear hk
  obtain ⟨q, hq⟩ : ∃ q, w.heap.size = q := ⟨_, rfl⟩
  obtain ⟨g, hg⟩ : ∃ g, q + 1 = g := ⟨_, rfl⟩
  obtain ⟨w1, hw1⟩ : ∃ w1, w.alloc (.cells #[.int .i64 k, .int .i64 b, .int .i64 c, .int .i64 v] 43) = w1 := ⟨_, rfl⟩
  have ha1 : Blk w1 q 43 #[.int .i64 k, .int .i64 b, .int .i64 c, .int .i64 v] := by rw [← hw1, ← hq]; exact Blk.new w _ _
  have hs1 : w1.heap.size = g := by rw [← hw1]; simp; omega
  have hk1 : Kept [] w w1 := by rw [← hw1]; exact (Kept.refl [] w).alloc _
  obtain ⟨w2, hw2⟩ : ∃ w2, w1.alloc (.cells It.zero.cells 26) = w2 := ⟨_, rfl⟩
  have ha2 : Blk w2 q 43 #[.int .i64 k, .int .i64 b, .int .i64 c, .int .i64 v] := by rw [← hw2]; exact ha1.alloc _
  have hb2' : Blk w2 w1.heap.size 26 It.zero.cells := by rw [← hw2]; exact Blk.new w1 _ _
  rw [hs1] at hb2'
  have hk2 : Kept [] w w2 := by rw [← hw2]; exact hk1.alloc (.cells It.zero.cells 26)
  have c0 : w2.cell? ⟨q, 0, none⟩ = some (.int .i64 k) := ha2.cell 0
  have c1 : w2.cell? ⟨q, 1, none⟩ = some (.int .i64 b) := ha2.cell 1
  have c2 : w2.cell? ⟨q, 2, none⟩ = some (.int .i64 c) := ha2.cell 2
  have c3 : w2.cell? ⟨q, 3, none⟩ = some (.int .i64 v) := ha2.cell 3
  obtain ⟨d0, d1, d2, d3⟩ := It.cell_at hb2'
  have f0 := hb2'.frozen 0
  have f1 := hb2'.frozen 1
  have f2 := hb2'.frozen 2
  have f3 := hb2'.frozen 3
  have hbw := hide (It.put_at 4 (b % 64) 0 (1 + v % 4095) hb2')
  have hkw := hide (It.put_kept (S := []) 4 (b % 64) 0 (1 + v % 4095) hk2 (g := g) (.inr (by omega)))
  clear ha1 ha2 hb2' hk1 hk2
  unfold It.zero It.cells at hw2
  dsimp only at hw2
  go_enter Try.func18, Try.ntmps18
  go_wp2_with fail
  refine (base.round_any b 64 _ (by omega) (by omega)).mono ?_
  rintro e w3 ⟨rfl, rfl⟩
  go_wp2_with fail
  refine (base.round_any k 7 _ (by omega) (by omega)).mono ?_
  rintro e w3 ⟨rfl, rfl⟩
  rw [HK.out]
  have hr1 := Int.emod_nonneg v (show (4095 : Int) ≠ 0 by omega)
  have hr2 := Int.emod_lt_of_pos v (show (0 : Int) < 4095 by omega)
  go_wp2_with fail
  refine (base.round_any v 4095 _ (by omega) (by omega)).mono ?_
  rintro e w3 ⟨rfl, rfl⟩
  go_wp2
  generalize ((((w2.setCell ⟨g, 0, none⟩ (.int .i64 4)).setCell ⟨g, 1, none⟩ (.int .i64 (b % 64))).setCell ⟨g, 2, none⟩ (.int .i64 0)).setCell ⟨g, 3, none⟩ (.int .i64 (1 + v % 4095))) = W at hbw hkw ⊢
  obtain ⟨t0, t1, t2, t3⟩ := It.cell_at hbw.out
  refine bodyPost_ret (v := It.val ⟨4, (b % 64), 0, (1 + v % 4095)⟩) ?_ rfl ⟨rfl, hkw.out⟩
  simp [results, Try.results18, go_sem, t0, t1, t2, t3, It.val]

set_option maxRecDepth 100000 in
theorem made_4 (k b c v : Int) (w : World) (hk : k % 7 = 4) :
    Calls Try.prog 18 #[.agg #[.int .i64 k, .int .i64 b, .int .i64 c, .int .i64 v]] w fun e w' => e = .returned (It.val ⟨5, (b % 64), 0, 0⟩) ∧ Kept [] w w' := by
  have hb1 := Int.emod_nonneg b (show (64 : Int) ≠ 0 by omega)
  have hb2 := Int.emod_lt_of_pos b (show (0 : Int) < 64 by omega)
  have HK := hide hk
  clear hk
  obtain ⟨q, hq⟩ : ∃ q, w.heap.size = q := ⟨_, rfl⟩
  obtain ⟨g, hg⟩ : ∃ g, q + 1 = g := ⟨_, rfl⟩
  obtain ⟨w1, hw1⟩ : ∃ w1, w.alloc (.cells #[.int .i64 k, .int .i64 b, .int .i64 c, .int .i64 v] 43) = w1 := ⟨_, rfl⟩
  have ha1 : Blk w1 q 43 #[.int .i64 k, .int .i64 b, .int .i64 c, .int .i64 v] := by rw [← hw1, ← hq]; exact Blk.new w _ _
  have hs1 : w1.heap.size = g := by rw [← hw1]; simp; omega
  have hk1 : Kept [] w w1 := by rw [← hw1]; exact (Kept.refl [] w).alloc _
  obtain ⟨w2, hw2⟩ : ∃ w2, w1.alloc (.cells It.zero.cells 26) = w2 := ⟨_, rfl⟩
  have ha2 : Blk w2 q 43 #[.int .i64 k, .int .i64 b, .int .i64 c, .int .i64 v] := by rw [← hw2]; exact ha1.alloc _
  have hb2' : Blk w2 w1.heap.size 26 It.zero.cells := by rw [← hw2]; exact Blk.new w1 _ _
  rw [hs1] at hb2'
  have hk2 : Kept [] w w2 := by rw [← hw2]; exact hk1.alloc (.cells It.zero.cells 26)
  have c0 : w2.cell? ⟨q, 0, none⟩ = some (.int .i64 k) := ha2.cell 0
  have c1 : w2.cell? ⟨q, 1, none⟩ = some (.int .i64 b) := ha2.cell 1
  have c2 : w2.cell? ⟨q, 2, none⟩ = some (.int .i64 c) := ha2.cell 2
  have c3 : w2.cell? ⟨q, 3, none⟩ = some (.int .i64 v) := ha2.cell 3
  obtain ⟨d0, d1, d2, d3⟩ := It.cell_at hb2'
  have f0 := hb2'.frozen 0
  have f1 := hb2'.frozen 1
  have f2 := hb2'.frozen 2
  have f3 := hb2'.frozen 3
  have hbw := hide (It.put_at 5 (b % 64) 0 0 hb2')
  have hkw := hide (It.put_kept (S := []) 5 (b % 64) 0 0 hk2 (g := g) (.inr (by omega)))
  clear ha1 ha2 hb2' hk1 hk2
  unfold It.zero It.cells at hw2
  dsimp only at hw2
  go_enter Try.func18, Try.ntmps18
  go_wp2_with fail
  refine (base.round_any b 64 _ (by omega) (by omega)).mono ?_
  rintro e w3 ⟨rfl, rfl⟩
  go_wp2_with fail
  refine (base.round_any k 7 _ (by omega) (by omega)).mono ?_
  rintro e w3 ⟨rfl, rfl⟩
  rw [HK.out]
  go_wp2
  generalize ((((w2.setCell ⟨g, 0, none⟩ (.int .i64 5)).setCell ⟨g, 1, none⟩ (.int .i64 (b % 64))).setCell ⟨g, 2, none⟩ (.int .i64 0)).setCell ⟨g, 3, none⟩ (.int .i64 0)) = W at hbw hkw ⊢
  obtain ⟨t0, t1, t2, t3⟩ := It.cell_at hbw.out
  refine bodyPost_ret (v := It.val ⟨5, (b % 64), 0, 0⟩) ?_ rfl ⟨rfl, hkw.out⟩
  simp [results, Try.results18, go_sem, t0, t1, t2, t3, It.val]

set_option maxRecDepth 100000 in
theorem made_5 (k b c v : Int) (w : World) (hk : k % 7 = 5) :
    Calls Try.prog 18 #[.agg #[.int .i64 k, .int .i64 b, .int .i64 c, .int .i64 v]] w fun e w' => e = .returned (It.val ⟨6, (b % 64), (1 + c % (64 - b % 64)), 0⟩) ∧ Kept [] w w' := by
  have hb1 := Int.emod_nonneg b (show (64 : Int) ≠ 0 by omega)
  have hb2 := Int.emod_lt_of_pos b (show (0 : Int) < 64 by omega)
  have HK := hide hk
  clear hk
  obtain ⟨q, hq⟩ : ∃ q, w.heap.size = q := ⟨_, rfl⟩
  obtain ⟨g, hg⟩ : ∃ g, q + 1 = g := ⟨_, rfl⟩
  obtain ⟨w1, hw1⟩ : ∃ w1, w.alloc (.cells #[.int .i64 k, .int .i64 b, .int .i64 c, .int .i64 v] 43) = w1 := ⟨_, rfl⟩
  have ha1 : Blk w1 q 43 #[.int .i64 k, .int .i64 b, .int .i64 c, .int .i64 v] := by rw [← hw1, ← hq]; exact Blk.new w _ _
  have hs1 : w1.heap.size = g := by rw [← hw1]; simp; omega
  have hk1 : Kept [] w w1 := by rw [← hw1]; exact (Kept.refl [] w).alloc _
  obtain ⟨w2, hw2⟩ : ∃ w2, w1.alloc (.cells It.zero.cells 26) = w2 := ⟨_, rfl⟩
  have ha2 : Blk w2 q 43 #[.int .i64 k, .int .i64 b, .int .i64 c, .int .i64 v] := by rw [← hw2]; exact ha1.alloc _
  have hb2' : Blk w2 w1.heap.size 26 It.zero.cells := by rw [← hw2]; exact Blk.new w1 _ _
  rw [hs1] at hb2'
  have hk2 : Kept [] w w2 := by rw [← hw2]; exact hk1.alloc (.cells It.zero.cells 26)
  have c0 : w2.cell? ⟨q, 0, none⟩ = some (.int .i64 k) := ha2.cell 0
  have c1 : w2.cell? ⟨q, 1, none⟩ = some (.int .i64 b) := ha2.cell 1
  have c2 : w2.cell? ⟨q, 2, none⟩ = some (.int .i64 c) := ha2.cell 2
  have c3 : w2.cell? ⟨q, 3, none⟩ = some (.int .i64 v) := ha2.cell 3
  obtain ⟨d0, d1, d2, d3⟩ := It.cell_at hb2'
  have f0 := hb2'.frozen 0
  have f1 := hb2'.frozen 1
  have f2 := hb2'.frozen 2
  have f3 := hb2'.frozen 3
  have hbw := hide (It.put_at 6 (b % 64) (1 + c % (64 - b % 64)) 0 hb2')
  have hkw := hide (It.put_kept (S := []) 6 (b % 64) (1 + c % (64 - b % 64)) 0 hk2 (g := g) (.inr (by omega)))
  clear ha1 ha2 hb2' hk1 hk2
  unfold It.zero It.cells at hw2
  dsimp only at hw2
  go_enter Try.func18, Try.ntmps18
  go_wp2_with fail
  refine (base.round_any b 64 _ (by omega) (by omega)).mono ?_
  rintro e w3 ⟨rfl, rfl⟩
  go_wp2_with fail
  refine (base.round_any k 7 _ (by omega) (by omega)).mono ?_
  rintro e w3 ⟨rfl, rfl⟩
  rw [HK.out]
  have hr1 := Int.emod_nonneg c (show ((64 - b % 64) : Int) ≠ 0 by omega)
  have hr2 := Int.emod_lt_of_pos c (show (0 : Int) < (64 - b % 64) by omega)
  go_wp2_with fail
  refine (base.round_any c (64 - b % 64) _ (by omega) (by omega)).mono ?_
  rintro e w3 ⟨rfl, rfl⟩
  go_wp2
  generalize ((((w2.setCell ⟨g, 0, none⟩ (.int .i64 6)).setCell ⟨g, 1, none⟩ (.int .i64 (b % 64))).setCell ⟨g, 2, none⟩ (.int .i64 (1 + c % (64 - b % 64)))).setCell ⟨g, 3, none⟩ (.int .i64 0)) = W at hbw hkw ⊢
  obtain ⟨t0, t1, t2, t3⟩ := It.cell_at hbw.out
  refine bodyPost_ret (v := It.val ⟨6, (b % 64), (1 + c % (64 - b % 64)), 0⟩) ?_ rfl ⟨rfl, hkw.out⟩
  simp [results, Try.results18, go_sem, t0, t1, t2, t3, It.val]

set_option maxRecDepth 100000 in
theorem made_6 (k b c v : Int) (w : World) (hk : k % 7 = 6) :
    Calls Try.prog 18 #[.agg #[.int .i64 k, .int .i64 b, .int .i64 c, .int .i64 v]] w fun e w' => e = .returned (It.val ⟨7, 0, 0, (v % 32)⟩) ∧ Kept [] w w' := by
  have hb1 := Int.emod_nonneg b (show (64 : Int) ≠ 0 by omega)
  have hb2 := Int.emod_lt_of_pos b (show (0 : Int) < 64 by omega)
  have HK := hide hk
  clear hk
  obtain ⟨q, hq⟩ : ∃ q, w.heap.size = q := ⟨_, rfl⟩
  obtain ⟨g, hg⟩ : ∃ g, q + 1 = g := ⟨_, rfl⟩
  obtain ⟨w1, hw1⟩ : ∃ w1, w.alloc (.cells #[.int .i64 k, .int .i64 b, .int .i64 c, .int .i64 v] 43) = w1 := ⟨_, rfl⟩
  have ha1 : Blk w1 q 43 #[.int .i64 k, .int .i64 b, .int .i64 c, .int .i64 v] := by rw [← hw1, ← hq]; exact Blk.new w _ _
  have hs1 : w1.heap.size = g := by rw [← hw1]; simp; omega
  have hk1 : Kept [] w w1 := by rw [← hw1]; exact (Kept.refl [] w).alloc _
  obtain ⟨w2, hw2⟩ : ∃ w2, w1.alloc (.cells It.zero.cells 26) = w2 := ⟨_, rfl⟩
  have ha2 : Blk w2 q 43 #[.int .i64 k, .int .i64 b, .int .i64 c, .int .i64 v] := by rw [← hw2]; exact ha1.alloc _
  have hb2' : Blk w2 w1.heap.size 26 It.zero.cells := by rw [← hw2]; exact Blk.new w1 _ _
  rw [hs1] at hb2'
  have hk2 : Kept [] w w2 := by rw [← hw2]; exact hk1.alloc (.cells It.zero.cells 26)
  have c0 : w2.cell? ⟨q, 0, none⟩ = some (.int .i64 k) := ha2.cell 0
  have c1 : w2.cell? ⟨q, 1, none⟩ = some (.int .i64 b) := ha2.cell 1
  have c2 : w2.cell? ⟨q, 2, none⟩ = some (.int .i64 c) := ha2.cell 2
  have c3 : w2.cell? ⟨q, 3, none⟩ = some (.int .i64 v) := ha2.cell 3
  obtain ⟨d0, d1, d2, d3⟩ := It.cell_at hb2'
  have f0 := hb2'.frozen 0
  have f1 := hb2'.frozen 1
  have f2 := hb2'.frozen 2
  have f3 := hb2'.frozen 3
  have hbw := hide (It.put_at 7 0 0 (v % 32) hb2')
  have hkw := hide (It.put_kept (S := []) 7 0 0 (v % 32) hk2 (g := g) (.inr (by omega)))
  clear ha1 ha2 hb2' hk1 hk2
  unfold It.zero It.cells at hw2
  dsimp only at hw2
  go_enter Try.func18, Try.ntmps18
  go_wp2_with fail
  refine (base.round_any b 64 _ (by omega) (by omega)).mono ?_
  rintro e w3 ⟨rfl, rfl⟩
  go_wp2_with fail
  refine (base.round_any k 7 _ (by omega) (by omega)).mono ?_
  rintro e w3 ⟨rfl, rfl⟩
  rw [HK.out]
  have hr1 := Int.emod_nonneg v (show (32 : Int) ≠ 0 by omega)
  have hr2 := Int.emod_lt_of_pos v (show (0 : Int) < 32 by omega)
  go_wp2_with fail
  refine (base.round_any v 32 _ (by omega) (by omega)).mono ?_
  rintro e w3 ⟨rfl, rfl⟩
  go_wp2
  generalize ((((w2.setCell ⟨g, 0, none⟩ (.int .i64 7)).setCell ⟨g, 1, none⟩ (.int .i64 0)).setCell ⟨g, 2, none⟩ (.int .i64 0)).setCell ⟨g, 3, none⟩ (.int .i64 (v % 32))) = W at hbw hkw ⊢
  obtain ⟨t0, t1, t2, t3⟩ := It.cell_at hbw.out
  refine bodyPost_ret (v := It.val ⟨7, 0, 0, (v % 32)⟩) ?_ rfl ⟨rfl, hkw.out⟩
  simp [results, Try.results18, go_sem, t0, t1, t2, t3, It.val]

theorem made_any (x : It) (w : World) :
    Calls Try.prog 18 #[x.val] w fun e w' => e = .returned (madeOf x).val ∧ Kept [] w w' := by
  obtain ⟨k, b, c, v⟩ := x
  unfold It.val
  dsimp only
  have h1 := Int.emod_nonneg k (show (7 : Int) ≠ 0 by omega)
  have h2 := Int.emod_lt_of_pos k (show (0 : Int) < 7 by omega)
  have hm : ∀ j : Int, k % 7 = j → madeOf ⟨k, b, c, v⟩ = if j = 0 then ⟨1, b % 64, 0, 0⟩ else if j = 1 then ⟨2, b % 64, 1 + c % (64 - b % 64), 0⟩ else if j = 2 then ⟨3, 0, 0, 1 + v % 2147483647⟩ else
    if j = 3 then ⟨4, b % 64, 0, 1 + v % 4095⟩ else if j = 4 then ⟨5, b % 64, 0, 0⟩ else if j = 5 then ⟨6, b % 64, 1 + c % (64 - b % 64), 0⟩ else ⟨7, 0, 0, v % 32⟩ := fun j hj => by subst hj; rfl
  rcases (show k % 7 = 0 ∨ k % 7 = 1 ∨ k % 7 = 2 ∨ k % 7 = 3 ∨ k % 7 = 4 ∨ k % 7 = 5 ∨ k % 7 = 6 by omega) with h | h | h | h | h | h | h
  · rw [hm _ h]
    exact made_0 k b c v w h
  · rw [hm _ h]
    exact made_1 k b c v w h
  · rw [hm _ h]
    exact made_2 k b c v w h
  · rw [hm _ h]
    exact made_3 k b c v w h
  · rw [hm _ h]
    exact made_4 k b c v w h
  · rw [hm _ h]
    exact made_5 k b c v w h
  · rw [hm _ h]
    exact made_6 k b c v w h
end Go.Proofs.Ytbghkfjjmgmjmaa.item
