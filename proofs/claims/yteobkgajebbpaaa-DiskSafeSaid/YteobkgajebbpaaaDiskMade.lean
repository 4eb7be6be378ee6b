/- New. -/
import Derived.Test.YteobkgajebbpaaaDiskNew
namespace Go.Proofs.Yteobkgajebbpaaa.disk
open Go.RowKit Go.Proofs.Yteobkgajebbpaaa.mem Go.Proofs.Yteobkgajebbpaaa.base

set_option maxRecDepth 100000 in
set_option maxHeartbeats 1000000 in
theorem new_ok (n : Nat) (w : World) (h1 : 1 ≤ n) (h2 : n ≤ 4096) : Calls Try.prog 10 #[.int .i64 n] w fun e w' =>
    ∃ F p, e = .returned (.tuple #[.pointer (some ⟨p, 0, none⟩), .int .i64 0]) ∧ VD w' F p (Dk.new n) ∧ (∀ x ∈ F, w.heap.size ≤ x) ∧ Kept [] w w' := by
  have hs := make_secs n h2
  have hb := make_bools n h2
  have rs := row_secs n
  have rb := row_bools n
  have hnew : Dk.new n = ⟨List.replicate (64 * n) 0, [], List.replicate n false, -1, 0, false⟩ := rfl
  have hbl : (List.replicate (64 * n) (0 : UInt8)).length = 64 * n := by simp
  have hfl : (List.replicate n false).length = n := by simp
  generalize madeCells secZero.cells (n * 64) = Z at hs rs
  generalize madeCells #[Value.bool false] n = Y at hb rb
  generalize List.replicate (64 * n) (0 : UInt8) = bs at rs hnew hbl
  generalize List.replicate n false = fs at rb hnew hfl
  rw [hnew]
  clear hnew
  have RS := hide rs
  have RB := hide rb
  have HBL := hide hbl
  have HFL := hide hfl
  have r1 : Row ((w.alloc (.cells Z 70)).alloc (.cells Y 4)).drew w.heap.size 70 (bs.map B) := ((rs w).alloc _).drew
  have r2 : Row ((w.alloc (.cells Z 70)).alloc (.cells Y 4)).drew (w.heap.size + 1) 4 (fs.map Value.bool) := by have := rb (w.alloc (.cells Z 70)); simpa using this.drew
  have q2 : Row ((w.alloc (.cells Y 4)).alloc (.cells Z 70)).drew w.heap.size 4 (fs.map Value.bool) := ((rb w).alloc _).drew
  have q1 : Row ((w.alloc (.cells Y 4)).alloc (.cells Z 70)).drew (w.heap.size + 1) 70 (bs.map B) := by have := rs (w.alloc (.cells Y 4)); simpa using this.drew
  clear rs rb hbl hfl RS RB
  go_enter Try.func10, Try.ntmps10
  go_wp2
  go_region_held3 (fun _ => True) (trivial)
    (first
    | (go_at_call 32; refine (made_at _ _ _ _ n bs fs _ (by assumption) (by assumption) HBL.out HFL.out h2 (Nat.le_refl _) (Nat.le_refl _)).mono ?_; rintro e w1 ⟨p, gn, cn, rfl, hd, hp, hgn, hk⟩))
  all_goals
    go_wp2
    go_ret2
    have hd2 := vd_of_made (w := w) (n := n) hd (by simp at hp; omega) (by omega) (by simp at hgn; omega) (by omega) HBL.out HFL.out h1 h2
    obtain ⟨F, hv, hF⟩ := hd2
    refine ⟨F, p, rfl, hv, hF, ?_⟩
    exact ((((Kept.refl [] w).alloc _).alloc _).drew).trans hk (by simp)

end Go.Proofs.Yteobkgajebbpaaa.disk
