/- Package geom: within, upwards, may, the parts, lay, New. -/
import Derived.Test.YtjbdjdlmpcbakaaGreatQShapes
import Derived.StillTailTactics
namespace Go.Proofs.YtjbdjdlmpcbakaaGreat.geom
open Go.RowKit Go.Proofs.YtjbdjdlmpcbakaaGreat.mem Go.Proofs.YtjbdjdlmpcbakaaGreat.base
theorem between (n a b : Int) (w : World) :
    Calls Tryz.prog 102 #[.int .i64 n, .int .i64 a, .int .i64 b] w fun e w' => e = .returned (.bool (decide (a ≤ n) && decide (n ≤ b))) ∧ w = w' := by
  by_cases h : a ≤ n
  · go_enter Tryz.func102, Tryz.ntmps102
    go_wp2
    go_ret
    exact ⟨by simp [h], rfl⟩
  · go_enter Tryz.func102, Tryz.ntmps102
    go_wp2
    go_ret
    exact ⟨by rw [show decide (a ≤ n) = false from decide_eq_false (by omega)]; rfl, rfl⟩
theorem between_yes (n a b : Int) (w : World) (h : a ≤ n ∧ n ≤ b) :
    Calls Tryz.prog 102 #[.int .i64 n, .int .i64 a, .int .i64 b] w fun e w' => e = .returned (.bool true) ∧ w = w' :=
  (between n a b w).mono fun e w' ⟨he, hw⟩ => ⟨by rw [he]; simp [h.1, h.2], hw⟩
theorem between_no (n a b : Int) (w : World) (h : n < a ∨ b < n) :
    Calls Tryz.prog 102 #[.int .i64 n, .int .i64 a, .int .i64 b] w fun e w' => e = .returned (.bool false) ∧ w = w' :=
  (between n a b w).mono fun e w' ⟨he, hw⟩ => ⟨by rw [he]; congr 2; rw [← Bool.not_eq_true, Bool.and_eq_true, decide_eq_true_iff, decide_eq_true_iff]; omega, hw⟩

theorem upwards_ok (n d : Int) (w : World) (hn : 0 ≤ n) (hn2 : n ≤ 1000000) (hd : 1 ≤ d) (hd2 : d ≤ 1000000) :
    Calls Tryz.prog 74 #[.int .i64 n, .int .i64 d] w fun e w' => e = .returned (.int .i64 ((n + d - 1) / d)) ∧ w = w' := by
  have h0 : (d == 0) = false := beq_eq_false_iff_ne.2 (by omega)
  have h1 : Hid ((n + d - 1).tdiv d = (n + d - 1) / d) := hide (Int.tdiv_eq_ediv_of_nonneg (by omega))
  have h2 : 0 ≤ (n + d - 1).tdiv d := by rw [h1.out]; exact Int.ediv_nonneg (by omega) (by omega)
  have h3 : (n + d - 1).tdiv d ≤ n + d - 1 := by rw [h1.out]; exact Int.ediv_le_self _ (by omega)
  go_enter Tryz.func74, Tryz.ntmps74
  go_wp2
  go_ret
  exact ⟨congrArg (fun q => Ending.returned (.int .i64 q)) h1.out, rfl⟩

/-- What may be a Config. -/
def Ok (b s l : Int) : Prop := (1 ≤ b ∧ b ≤ 64) ∧ (8 ≤ s ∧ s ≤ 32) ∧ 24 ≤ l ∧ l ≤ 64

theorem may_yes (b s l : Int) (w : World) (h : Ok b s l) :
    Calls Tryz.prog 73 #[.agg #[.int .i64 b, .int .i64 s, .int .i64 l]] w fun e w' => e = .returned (.bool true) ∧ Kept [] w w' := by
  obtain ⟨h1, h2, h3⟩ := h
  have hk := (Kept.refl [] w).alloc (.cells #[.int .i64 b, .int .i64 s, .int .i64 l] 29)
  go_enter Tryz.func73, Tryz.ntmps73
  go_wp2_with fail
  refine (between_yes b 1 64 _ h1).mono ?_
  rintro e w1 ⟨rfl, rfl⟩
  go_wp2_with fail
  refine (between_yes s 8 32 _ h2).mono ?_
  rintro e w1 ⟨rfl, rfl⟩
  go_wp2_with fail
  refine (between_yes l 24 64 _ h3).mono ?_
  rintro e w1 ⟨rfl, rfl⟩
  go_wp2
  go_ret
  exact ⟨rfl, hk⟩
theorem may_no (b s l : Int) (w : World) (h : ¬ Ok b s l) :
    Calls Tryz.prog 73 #[.agg #[.int .i64 b, .int .i64 s, .int .i64 l]] w fun e w' => e = .returned (.bool false) ∧ Kept [] w w' := by
  have hk := (Kept.refl [] w).alloc (.cells #[.int .i64 b, .int .i64 s, .int .i64 l] 29)
  by_cases h1 : 1 ≤ b ∧ b ≤ 64
  · by_cases h2 : 8 ≤ s ∧ s ≤ 32
    · have h3 : l < 24 ∨ 64 < l := by
        unfold Ok at h
        omega
      clear h
      go_enter Tryz.func73, Tryz.ntmps73
      go_wp2_with fail
      refine (between_yes b 1 64 _ h1).mono ?_
      rintro e w1 ⟨rfl, rfl⟩
      go_wp2_with fail
      refine (between_yes s 8 32 _ h2).mono ?_
      rintro e w1 ⟨rfl, rfl⟩
      go_wp2_with fail
      refine (between_no l 24 64 _ h3).mono ?_
      rintro e w1 ⟨rfl, rfl⟩
      go_wp2
      go_ret
      exact ⟨rfl, hk⟩
    · have h3 : s < 8 ∨ 32 < s := by omega
      clear h h2
      go_enter Tryz.func73, Tryz.ntmps73
      go_wp2_with fail
      refine (between_yes b 1 64 _ h1).mono ?_
      rintro e w1 ⟨rfl, rfl⟩
      go_wp2_with fail
      refine (between_no s 8 32 _ h3).mono ?_
      rintro e w1 ⟨rfl, rfl⟩
      go_wp2
      go_ret
      exact ⟨rfl, hk⟩
  · have h3 : b < 1 ∨ 64 < b := by omega
    clear h h1
    go_enter Tryz.func73, Tryz.ntmps73
    go_wp2_with fail
    refine (between_no b 1 64 _ h3).mono ?_
    rintro e w1 ⟨rfl, rfl⟩
    go_wp2
    go_ret
    exact ⟨rfl, hk⟩

/-- A part of a device. -/
def PV (a c z : Int) : Value := .agg #[.int .i64 a, .int .i64 c, .int .i64 z]

theorem end_ok (a c z : Int) (w : World) (h0 : 0 ≤ c * z) (h1 : c * z ≤ 1000000) (ha : 0 ≤ a) (ha2 : a ≤ 1000000) :
    Calls Tryz.prog 106 #[PV a c z] w fun e w' => e = .returned (.int .i64 (a + c * z)) ∧ Kept [] w w' := by
  have hk := (Kept.refl [] w).alloc (.cells #[.int .i64 a, .int .i64 c, .int .i64 z] 135)
  unfold PV
  go_enter Tryz.func106, Tryz.ntmps106
  go_wp2
  go_ret
  exact ⟨rfl, hk⟩

theorem first_no (a c z i : Int) (w : World) (hc : 0 ≤ c) (hc2 : c ≤ 1000000) (hi : i < 0 ∨ c - 1 < i) :
    Calls Tryz.prog 66 #[PV a c z, .int .i64 i] w fun e w' => e = .returned (.int .i64 (-1)) ∧ Kept [] w w' := by
  have hk := (Kept.refl [] w).alloc (.cells #[.int .i64 a, .int .i64 c, .int .i64 z] 135)
  unfold PV
  go_enter Tryz.func66, Tryz.ntmps66
  go_wp2_with fail
  refine (between_no i 0 (c - 1) _ hi).mono ?_
  rintro e w1 ⟨rfl, rfl⟩
  go_wp2
  go_ret
  exact ⟨rfl, hk⟩
theorem first_yes (a c z i : Int) (w : World) (hc : 0 ≤ c) (hc2 : c ≤ 1000000) (hi : 0 ≤ i ∧ i ≤ c - 1) (h0 : 0 ≤ i * z) (h1 : i * z ≤ 1000000) (ha : 0 ≤ a) (ha2 : a ≤ 1000000) :
    Calls Tryz.prog 66 #[PV a c z, .int .i64 i] w fun e w' => e = .returned (.int .i64 (a + i * z)) ∧ Kept [] w w' := by
  have hk := (Kept.refl [] w).alloc (.cells #[.int .i64 a, .int .i64 c, .int .i64 z] 135)
  unfold PV
  go_enter Tryz.func66, Tryz.ntmps66
  go_wp2_with fail
  refine (between_yes i 0 (c - 1) _ hi).mono ?_
  rintro e w1 ⟨rfl, rfl⟩
  go_wp2
  go_ret
  exact ⟨rfl, hk⟩
end Go.Proofs.YtjbdjdlmpcbakaaGreat.geom
