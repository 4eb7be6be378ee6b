/- What the statements want besides: seg 0, a sector in a segment, what is kept beside a Config. -/
import Derived.Test.YtflnngpgmlgjcaaGeomAwake
namespace Go.Proofs.Ytflnngpgmlgjcaa.geom
open Go.RowKit Go.Proofs.Ytflnngpgmlgjcaa.mem Go.Proofs.Ytflnngpgmlgjcaa.base

theorem seg0_at (p : Nat) (b s l r q : Int) (w : World) (h : GAt w p b s l r q) :
    Calls Try.prog 25 #[.pointer (some ⟨p, 0, none⟩), .int .i64 0] w fun e w' => e = .returned (.int .i64 (2 + 2 * r + 4 * q)) ∧ Kept [] w w' := by
  refine (seg_any p b s l r q 0 w h).mono fun e w' ⟨he, hk⟩ => ⟨?_, hk⟩
  obtain ⟨_, hs, _⟩ := h.ok
  rw [he]
  unfold segAt
  rw [if_pos (by omega)]
  simp
theorem segAt_in {s l r q a : Int} (ha : 0 ≤ a ∧ a ≤ s - 1) : segAt s l r q a = 2 + 2 * r + 4 * q + a * l := by
  unfold segAt
  rw [if_pos ha]
theorem in_seg {s l a b : Int} (ha : 0 ≤ a ∧ a ≤ s - 1) (hb : 0 ≤ b ∧ b < l) : 0 ≤ a * l ∧ a * l + b < s * l := by
  refine ⟨Int.mul_nonneg ha.1 (by omega), ?_⟩
  have : (a + 1) * l ≤ s * l := Int.mul_le_mul_of_nonneg_right (by omega) (by omega)
  rw [Int.add_mul] at this
  omega
theorem where_in (p : Nat) (b s l r q x y : Int) (w : World) (h : GAt w p b s l r q) (hx : 0 ≤ x ∧ x ≤ s - 1) (hy : 0 ≤ y ∧ y < l) :
    Calls Try.prog 11 #[.pointer (some ⟨p, 0, none⟩), .int .i64 (2 + 2 * r + 4 * q + x * l + y)] w fun e w' => e = .returned (.tuple #[.int .i64 x, .int .i64 y, .bool true]) ∧ Kept [] w w' := by
  have hm := in_seg hx hy
  refine (where_yes p b s l r q _ w h (by unfold isIn; omega)).mono fun e w' ⟨he, hk⟩ => ⟨?_, hk⟩
  have h1 : 2 + 2 * r + 4 * q + x * l + y - (2 + 2 * r + 4 * q) = y + x * l := by omega
  have h2 : (y + x * l) / l = x := by
    rw [Int.add_mul_ediv_right _ _ (by omega), Int.ediv_eq_zero_of_lt hy.1 hy.2]
    omega
  have h3 : (y + x * l) % l = y := by
    rw [Int.add_mul_emod_self_right]
    exact Int.emod_eq_of_lt hy.1 hy.2
  rw [he, h1, h2, h3]

/-- What is kept of a Config beside a world. -/
def Stood (w1 W : World) (g : Nat) (b s l : Int) : Prop := Kept [] w1 W ∧ W.cell? ⟨g, 0, none⟩ = some (.int .i64 b) ∧ W.cell? ⟨g, 1, none⟩ = some (.int .i64 s) ∧ W.cell? ⟨g, 2, none⟩ = some (.int .i64 l)
theorem stood {w1 W W' : World} {g : Nat} {b s l : Int} (h : Kept [] w1 W ∧ W.cell? ⟨g, 0, none⟩ = some (.int .i64 b) ∧ W.cell? ⟨g, 1, none⟩ = some (.int .i64 s) ∧ W.cell? ⟨g, 2, none⟩ = some (.int .i64 l)) (hk : Kept [] W W') :
    Kept [] w1 W' ∧ W'.cell? ⟨g, 0, none⟩ = some (.int .i64 b) ∧ W'.cell? ⟨g, 1, none⟩ = some (.int .i64 s) ∧ W'.cell? ⟨g, 2, none⟩ = some (.int .i64 l) :=
  ⟨h.1.trans hk (by simp), hk.cell h.2.1 (by simp), hk.cell h.2.2.1 (by simp), hk.cell h.2.2.2 (by simp)⟩
end Go.Proofs.Ytflnngpgmlgjcaa.geom
