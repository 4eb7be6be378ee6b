/- The statements' Config, and the document's own example. -/
import Derived.Test.YtflnngpgmlgjcaaGeomRef
namespace Go.Proofs.Ytflnngpgmlgjcaa.geom
open Go.RowKit Go.Proofs.Ytflnngpgmlgjcaa.mem Go.Proofs.Ytflnngpgmlgjcaa.base

set_option maxHeartbeats 1000000 in
theorem awake_any (w : World) : Calls Try.prog 9 #[] w fun e w' => e = .returned (.bool true) ∧ Kept [] w w' := by
  have hno : ¬ Ok 65 8 24 := by unfold Ok; omega
  have HN := hide hno
  clear hno
  go_enter Try.func9, Try.ntmps9
  go_wp2_with fail
  refine (new_yes 20 8 24 _ (by unfold Ok; omega)).mono ?_
  rintro e w1 ⟨p, r, q, rfl, hg, hp, hk1⟩
  obtain rfl : r = 2 := by have := hg.hr; omega
  obtain rfl : q = 2 := by have := hg.hq; omega
  have HG := hide hg
  have HK1 := hide hk1
  clear hg hk1
  go_wp2_with fail
  refine (new_no 65 8 24 _ HN.out).mono ?_
  rintro e w2 ⟨rfl, hk2⟩
  have HG2 := hide (HG.out.kept hk2)
  have HK2 := hide (HK1.out.trans hk2 (by simp))
  clear hk2 HK1 HG
  go_wp2_with fail
  refine (pages_at p 20 8 24 2 2 _ HG2.out).mono ?_
  rintro e w3 ⟨rfl, hk3⟩
  have HG3 := hide (HG2.out.kept hk3)
  have HK3 := hide (HK2.out.trans hk3 (by simp))
  clear hk3 HK2 HG2
  go_wp2_with fail
  refine (regionLen_at p 20 8 24 2 2 _ HG3.out).mono ?_
  rintro e w4 ⟨rfl, hk4⟩
  have HG4 := hide (HG3.out.kept hk4)
  have HK4 := hide (HK3.out.trans hk4 (by simp))
  clear hk4 HK3 HG3
  go_wp2_with fail
  refine (seg_any p 20 8 24 2 2 0 _ HG4.out).mono ?_
  rintro e w5 ⟨rfl, hk5⟩
  have HG5 := hide (HG4.out.kept hk5)
  have HK5 := hide (HK4.out.trans hk5 (by simp))
  clear hk5 HK4 HG4
  rw [show segAt 8 24 2 2 0 = 14 from rfl]
  go_wp2_with fail
  refine (sectors_at p 20 8 24 2 2 _ HG5.out).mono ?_
  rintro e w6 ⟨rfl, hk6⟩
  have HG6 := hide (HG5.out.kept hk6)
  have HK6 := hide (HK5.out.trans hk6 (by simp))
  clear hk6 HK5 HG5
  rw [show (2 + 2 * 2 + 4 * 2 + 8 * 24 : Int) = 206 from rfl]
  go_wp2_with fail
  refine (share_at p 20 8 24 2 2 _ HG6.out).mono ?_
  rintro e w7 ⟨rfl, rfl⟩
  rw [show ((8 - 3) * ((24 - 2) / 2 + 1) - 1 : Int) = 59 from rfl]
  go_wp2_with fail
  refine (seg_nil 0 _).mono ?_
  rintro e w7 ⟨rfl, hk7⟩
  have HK7 := hide (HK6.out.trans hk7 (by simp))
  clear hk7 HK6 HG6
  go_wp2_with fail
  refine (sectors_nil _).mono ?_
  rintro e w8 ⟨rfl, hk8⟩
  go_wp2
  go_ret
  exact ⟨rfl, HK7.out.trans hk8 (by simp)⟩

set_option maxHeartbeats 1000000 in
theorem config_any (x y z : Int) (w : World) :
    Calls Try.prog 31 #[.agg #[.int .i64 x, .int .i64 y, .int .i64 z], .bool false] w fun e w' => ∃ b s l, e = .returned (.agg #[.int .i64 b, .int .i64 s, .int .i64 l]) ∧ Ok b s l ∧ Kept [] w w' := by
  have hk := hide (((Kept.refl [] w).alloc (.cells #[.int .i64 x, .int .i64 y, .int .i64 z] 41)))
  obtain ⟨b, hb⟩ : ∃ b, x % 64 = b := ⟨_, rfl⟩
  obtain ⟨s, hs⟩ : ∃ s, y % 25 = s := ⟨_, rfl⟩
  obtain ⟨l, hl⟩ : ∃ l, z % 41 = l := ⟨_, rfl⟩
  have hb1 : 0 ≤ b ∧ b ≤ 63 := by omega
  have hs1 : 0 ≤ s ∧ s ≤ 24 := by omega
  have hl1 : 0 ≤ l ∧ l ≤ 40 := by omega
  have HB := hide hb
  have HS := hide hs
  have HL := hide hl
  clear hb hs hl
  have g1 : IntKind.i64.wrap (1 + b) = 1 + b := IntWalk.i64_in _ (by omega)
  have g2 : IntKind.i64.wrap (8 + s) = 8 + s := IntWalk.i64_in _ (by omega)
  have g3 : IntKind.i64.wrap (24 + l) = 24 + l := IntWalk.i64_in _ (by omega)
  go_enter Try.func31, Try.ntmps31
  go_wp2
  go_region_held3 (fun W => W.cell? ⟨w.heap.size, 0, none⟩ = some (.int .i64 x) ∧ W.cell? ⟨w.heap.size, 1, none⟩ = some (.int .i64 y) ∧ W.cell? ⟨w.heap.size, 2, none⟩ = some (.int .i64 z))
    (first | (simp; done) | (simp_all; done))
    (first | (go_at_call 33; first | (refine (round_any x 64 _ (by omega) (by omega)).mono ?_; rintro e w1 ⟨rfl, rfl⟩; rw [HB.out]) | (refine (round_any y 25 _ (by omega) (by omega)).mono ?_; rintro e w1 ⟨rfl, rfl⟩; rw [HS.out]) | (refine (round_any z 41 _ (by omega) (by omega)).mono ?_; rintro e w1 ⟨rfl, rfl⟩; rw [HL.out])))
  go_wp2
  refine bodyPost_ret (v := .agg #[.int .i64 (1 + b), .int .i64 (8 + s), .int .i64 (24 + l)]) (by simp [results, Try.results31, go_sem]) rfl ⟨1 + b, 8 + s, 24 + l, rfl, by unfold Ok; omega, ?_⟩
  exact (hk.out.alloc _).drew
end Go.Proofs.Ytflnngpgmlgjcaa.geom
