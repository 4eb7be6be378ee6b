/- Counts, as GeomCovers lays them: what is taken so far. -/
import Derived.Test.YtflnngpgmlgjcaaGeomCnt
namespace Go.Proofs.Ytflnngpgmlgjcaa.geom
open Go.RowKit Go.Proofs.Ytflnngpgmlgjcaa.mem Go.Proofs.Ytflnngpgmlgjcaa.base

/-- What is taken: so many superblocks, sectors of regions, the slots below sl, and in slot sl so many base and over pages, sectors of segments. -/
def Tk (r q sup reg sl pb po sg i : Int) : Prop :=
  i < sup ∨ (2 ≤ i ∧ i < 2 + reg) ∨
  ((2 + 2 * r ≤ i ∧ i < 2 + 2 * r + 2 * q) ∧ ((i - (2 + 2 * r)) % 2 < sl ∨ ((i - (2 + 2 * r)) % 2 = sl ∧ (i - (2 + 2 * r)) / 2 < pb))) ∨
  ((2 + 2 * r + 2 * q ≤ i ∧ i < 2 + 2 * r + 4 * q) ∧ ((i - (2 + 2 * r + 2 * q)) % 2 < sl ∨ ((i - (2 + 2 * r + 2 * q)) % 2 = sl ∧ (i - (2 + 2 * r + 2 * q)) / 2 < po))) ∨
  (2 + 2 * r + 4 * q ≤ i ∧ i < 2 + 2 * r + 4 * q + sg)
instance {r q sup reg sl pb po sg i : Int} : Decidable (Tk r q sup reg sl pb po sg i) := by
  unfold Tk
  infer_instance
def tk (r q sup reg sl pb po sg : Int) : Nat → Int := fun i => if Tk r q sup reg sl pb po sg i then 1 else 0
theorem tk_le (r q sup reg sl pb po sg : Int) (i : Nat) : 0 ≤ tk r q sup reg sl pb po sg i ∧ tk r q sup reg sl pb po sg i ≤ 1000 := by
  unfold tk
  split <;> omega
theorem tk_eq {r q sup reg sl pb po sg sup' reg' sl' pb' po' sg' : Int} {i : Nat} (h : Tk r q sup reg sl pb po sg i ↔ Tk r q sup' reg' sl' pb' po' sg' i) : tk r q sup reg sl pb po sg i = tk r q sup' reg' sl' pb' po' sg' i := by
  unfold tk
  by_cases h1 : Tk r q sup reg sl pb po sg i
  · rw [if_pos h1, if_pos (h.1 h1)]
  · rw [if_neg h1, if_neg (fun h2 => h1 (h.2 h2))]
theorem tk_plus {r q sup reg sl pb po sg sup' reg' sl' pb' po' sg' : Int} {a k i : Nat} (h1 : a ≤ i ∧ i < a + k → ¬ Tk r q sup reg sl pb po sg i ∧ Tk r q sup' reg' sl' pb' po' sg' i)
    (h2 : ¬ (a ≤ i ∧ i < a + k) → (Tk r q sup reg sl pb po sg i ↔ Tk r q sup' reg' sl' pb' po' sg' i)) : plus (tk r q sup reg sl pb po sg) a k i = tk r q sup' reg' sl' pb' po' sg' i := by
  unfold plus
  by_cases h : a ≤ i ∧ i < a + k
  · rw [if_pos h]
    unfold tk
    rw [if_neg (h1 h).1, if_pos (h1 h).2]
    rfl
  · rw [if_neg h]
    exact tk_eq (h2 h)

/-- takes, with the state told as what is taken. -/
theorem takes_tk {w : World} {g N c : Nat} {r q sup reg sl pb po sg : Int} (sup' reg' sl' pb' po' sg' a k : Int) (h : Cnt w g N (tk r q sup reg sl pb po sg)) (hN : N ≤ 10000) (ha : 0 ≤ a) (hk : 1 ≤ k) (hak : a + k ≤ N)
    (h1 : ∀ i : Int, a ≤ i ∧ i < a + k → ¬ Tk r q sup reg sl pb po sg i ∧ Tk r q sup' reg' sl' pb' po' sg' i)
    (h2 : ∀ i : Int, 0 ≤ i → ¬ (a ≤ i ∧ i < a + k) → (Tk r q sup reg sl pb po sg i ↔ Tk r q sup' reg' sl' pb' po' sg' i)) :
    Calls Try.prog 32 #[.slice (some ⟨g, 0, none⟩) N c, .int .i64 a, .int .i64 k] w fun e w' => e = .returned (.bool true) ∧ Cnt w' g N (tk r q sup' reg' sl' pb' po' sg') ∧ Kept [g] w w' := by
  obtain ⟨a, rfl⟩ := Int.eq_ofNat_of_zero_le ha
  obtain ⟨k, rfl⟩ := Int.eq_ofNat_of_zero_le (show 0 ≤ k by omega)
  refine (takes_ok g N _ a k c w h hN (by omega) (by omega) (tk_le r q sup reg sl pb po sg)).mono fun e w' ⟨he, hc, hkk⟩ => ⟨he, hc.congr fun i hi => ?_, hkk⟩
  exact tk_plus (fun hh => h1 i (by omega)) (fun hh => h2 i (by omega) (by omega))

section
variable {r q : Int} (hr : 2 ≤ r ∧ r ≤ 4) (hq : 1 ≤ q ∧ q ≤ 5)
include hr hq
theorem t_super {x R i : Int} (hx : 0 ≤ x ∧ x ≤ 1) (hR : 0 ≤ R ∧ R ≤ 2 * r) : (x ≤ i ∧ i < x + 1 → ¬ Tk r q x R x 0 0 0 i ∧ Tk r q (x + 1) R x 0 0 0 i) ∧ (0 ≤ i → ¬ (x ≤ i ∧ i < x + 1) → (Tk r q x R x 0 0 0 i ↔ Tk r q (x + 1) R x 0 0 0 i)) := by
  unfold Tk
  omega
theorem t_region {x R i : Int} (hx : 0 ≤ x ∧ x ≤ 1) (hR : 0 ≤ R ∧ R ≤ r) : (2 + R ≤ i ∧ i < 2 + R + r → ¬ Tk r q (x + 1) R x 0 0 0 i ∧ Tk r q (x + 1) (R + r) x 0 0 0 i) ∧ (0 ≤ i → ¬ (2 + R ≤ i ∧ i < 2 + R + r) → (Tk r q (x + 1) R x 0 0 0 i ↔ Tk r q (x + 1) (R + r) x 0 0 0 i)) := by
  unfold Tk
  omega
theorem t_base {x R p i : Int} (hx : 0 ≤ x ∧ x ≤ 1) (hR : 0 ≤ R ∧ R ≤ 2 * r) (hp : 0 ≤ p ∧ p < q) : (2 + 2 * r + 2 * p + x ≤ i ∧ i < 2 + 2 * r + 2 * p + x + 1 → ¬ Tk r q (x + 1) R x p p 0 i ∧ Tk r q (x + 1) R x (p + 1) p 0 i) ∧
    (0 ≤ i → ¬ (2 + 2 * r + 2 * p + x ≤ i ∧ i < 2 + 2 * r + 2 * p + x + 1) → (Tk r q (x + 1) R x p p 0 i ↔ Tk r q (x + 1) R x (p + 1) p 0 i)) := by
  unfold Tk
  omega
theorem t_over {x R p i : Int} (hx : 0 ≤ x ∧ x ≤ 1) (hR : 0 ≤ R ∧ R ≤ 2 * r) (hp : 0 ≤ p ∧ p < q) : (2 + 2 * r + 2 * q + 2 * p + x ≤ i ∧ i < 2 + 2 * r + 2 * q + 2 * p + x + 1 → ¬ Tk r q (x + 1) R x (p + 1) p 0 i ∧ Tk r q (x + 1) R x (p + 1) (p + 1) 0 i) ∧
    (0 ≤ i → ¬ (2 + 2 * r + 2 * q + 2 * p + x ≤ i ∧ i < 2 + 2 * r + 2 * q + 2 * p + x + 1) → (Tk r q (x + 1) R x (p + 1) p 0 i ↔ Tk r q (x + 1) R x (p + 1) (p + 1) 0 i)) := by
  unfold Tk
  omega
theorem t_next {x R i : Int} (hx : 0 ≤ x ∧ x ≤ 1) : Tk r q (x + 1) R x q q 0 i ↔ Tk r q (x + 1) R (x + 1) 0 0 0 i := by
  unfold Tk
  omega
theorem t_seg {z l i : Int} (hz : 0 ≤ z) (hl : 0 ≤ l) : (2 + 2 * r + 4 * q + z ≤ i ∧ i < 2 + 2 * r + 4 * q + z + l → ¬ Tk r q 2 (2 * r) 2 0 0 z i ∧ Tk r q 2 (2 * r) 2 0 0 (z + l) i) ∧
    (0 ≤ i → ¬ (2 + 2 * r + 4 * q + z ≤ i ∧ i < 2 + 2 * r + 4 * q + z + l) → (Tk r q 2 (2 * r) 2 0 0 z i ↔ Tk r q 2 (2 * r) 2 0 0 (z + l) i)) := by
  unfold Tk
  omega
omit hr hq in
theorem t_all {z i : Int} (hi : 0 ≤ i ∧ i < 2 + 2 * r + 4 * q + z) : Tk r q 2 (2 * r) 2 0 0 z i := by
  unfold Tk
  omega
omit hr hq in
theorem t_none {i : Int} (hi : 0 ≤ i) : ¬ Tk r q 0 0 0 0 0 0 i := by
  unfold Tk
  omega
end

theorem made_I (n i : Nat) (h : i < n) : (madeCells #[.int .i64 0] n)[i]? = some (.int .i64 0) := by
  simp [madeCells, h, Nat.mod_one]
theorem cnt_made (w : World) (N : Nat) (r q : Int) : Cnt (w.alloc (.cells (madeCells #[.int .i64 0] N) 3)) w.heap.size N (tk r q 0 0 0 0 0 0) :=
  ⟨_, Blk.new w _ _, by rw [size_madeCells], fun i hi => by
    rw [made_I N i hi]
    unfold tk
    rw [if_neg (t_none (by omega))]⟩
end Go.Proofs.Ytflnngpgmlgjcaa.geom
