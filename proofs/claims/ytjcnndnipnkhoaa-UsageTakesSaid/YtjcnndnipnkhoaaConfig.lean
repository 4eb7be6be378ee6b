/- The statements' Config, of any three numbers. -/
import Derived.Test.YtjcnndnipnkhoaaBase
import Derived.Test.YtjcnndnipnkhoaaAlike
import Derived.Deep.RegionHeld3
namespace Go.Proofs.Ytjcnndnipnkhoaa.base
open Go.RowKit Go.Proofs.Ytjcnndnipnkhoaa.mem

set_option maxHeartbeats 1000000 in
theorem config_any (x y z : Int) (w : World) :
    Calls Try.prog 8 #[.agg #[.int .i64 x, .int .i64 y, .int .i64 z], .bool false] w fun e w' => ∃ b s l, e = .returned (.agg #[.int .i64 b, .int .i64 s, .int .i64 l]) ∧ ((1 ≤ b ∧ b ≤ 64) ∧ (8 ≤ s ∧ s ≤ 32) ∧ 24 ≤ l ∧ l ≤ 64) ∧ Kept [] w w' := by
  have hk := hide (((Kept.refl [] w).alloc (.cells #[.int .i64 x, .int .i64 y, .int .i64 z] 22)))
  obtain ⟨b, hb⟩ : ∃ b, x % 64 = b := ⟨_, rfl⟩
  obtain ⟨s, hs⟩ : ∃ s, y % 25 = s := ⟨_, rfl⟩
  obtain ⟨l, hl⟩ : ∃ l, z % 41 = l := ⟨_, rfl⟩
  have hb1 : 0 ≤ b ∧ b ≤ 63 := by omega
  have hs1 : 0 ≤ s ∧ s ≤ 24 := by omega
  have hl1 : 0 ≤ l ∧ l ≤ 40 := by omega
  have HB := hide hb
  have HS := hide hs
  have HL := hide hl
  clear hb hs hl
  have g1 : IntKind.i64.wrap (1 + b) = 1 + b := IntWalk.i64_in _ (by omega)
  have g2 : IntKind.i64.wrap (8 + s) = 8 + s := IntWalk.i64_in _ (by omega)
  have g3 : IntKind.i64.wrap (24 + l) = 24 + l := IntWalk.i64_in _ (by omega)
  go_enter Try.func8, Try.ntmps8
  go_wp2
  go_region_held3 (fun W => W.cell? ⟨w.heap.size, 0, none⟩ = some (.int .i64 x) ∧ W.cell? ⟨w.heap.size, 1, none⟩ = some (.int .i64 y) ∧ W.cell? ⟨w.heap.size, 2, none⟩ = some (.int .i64 z))
    (first | (simp; done) | (simp_all; done))
    (first | (go_at_call 26; first | (refine (round_any x 64 _ (by omega) (by omega)).mono ?_; rintro e w1 ⟨rfl, rfl⟩; rw [HB.out]) | (refine (round_any y 25 _ (by omega) (by omega)).mono ?_; rintro e w1 ⟨rfl, rfl⟩; rw [HS.out]) | (refine (round_any z 41 _ (by omega) (by omega)).mono ?_; rintro e w1 ⟨rfl, rfl⟩; rw [HL.out])))
  go_wp2
  refine bodyPost_ret (v := .agg #[.int .i64 (1 + b), .int .i64 (8 + s), .int .i64 (24 + l)]) (by simp [results, Try.results8, go_sem]) rfl ⟨1 + b, 8 + s, 24 + l, rfl, by omega, ?_⟩
  exact (hk.out.alloc _).drew
end Go.Proofs.Ytjcnndnipnkhoaa.base
