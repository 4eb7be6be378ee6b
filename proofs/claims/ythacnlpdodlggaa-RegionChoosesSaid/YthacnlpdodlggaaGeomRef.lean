/- The reference's answers on what lies where. -/
import Derived.Test.YthacnlpdodlggaaGeomWay
import Derived.Test.YthacnlpdodlggaaAlike
namespace Go.Proofs.Ythacnlpdodlggaa.geom
open Go.RowKit Go.Proofs.Ythacnlpdodlggaa.mem Go.Proofs.Ythacnlpdodlggaa.base
set_option linter.unusedVariables false

theorem up_eq (n d x : Int) (w : World) (hn : 0 ≤ n) (hn2 : n ≤ 1000000) (hd : 1 ≤ d) (hd2 : d ≤ 1000000) (hx : (n + d - 1) / d = x) :
    Calls Try.prog 72 #[.int .i64 n, .int .i64 d] w fun e w' => e = .returned (.int .i64 x) ∧ w = w' := by
  subst hx
  have h0 : (d == 0) = false := beq_eq_false_iff_ne.2 (by omega)
  have h1 : Hid ((n + d - 1).tdiv d = (n + d - 1) / d) := hide (Int.tdiv_eq_ediv_of_nonneg (by omega))
  have h2 : 0 ≤ (n + d - 1).tdiv d := by rw [h1.out]; exact Int.ediv_nonneg (by omega) (by omega)
  have h3 : (n + d - 1).tdiv d ≤ n + d - 1 := by rw [h1.out]; exact Int.ediv_le_self _ (by omega)
  go_enter Try.func72, Try.ntmps72
  go_wp2
  go_ret
  exact ⟨congrArg (fun q => Ending.returned (.int .i64 q)) h1.out, rfl⟩

/-- What stands of a Config that may be. -/
structure Rf (b s l r q : Int) : Prop where
  ok : Ok b s l
  hr : r = (106 + 5 * s) / 64
  hq : q = (b + 14) / 15
theorem Rf.bounds {b s l r q : Int} (h : Rf b s l r q) : 2 ≤ r ∧ r ≤ 4 ∧ 1 ≤ q ∧ q ≤ 5 := bounds_of h.ok h.hr h.hq
theorem GAt.rf {w : World} {p : Nat} {b s l r q : Int} (h : GAt w p b s l r q) : Rf b s l r q := ⟨h.ok, h.hr, h.hq⟩
theorem Rf.of {b s l : Int} (h : Ok b s l) : ∃ r q, Rf b s l r q := ⟨_, _, h, rfl, rfl⟩


theorem rpages (b s l r q : Int) (w : World) (h : Rf b s l r q) :
    Calls Try.prog 53 #[.agg #[.int .i64 b, .int .i64 s, .int .i64 l]] w fun e w' => e = .returned (.int .i64 q) ∧ Kept [] w w' := by
  have hk := hide ((Kept.refl [] w).alloc (.cells #[.int .i64 b, .int .i64 s, .int .i64 l] 31))
  have hq := hide (show (b + 15 - 1) / 15 = q by rw [h.hq]; congr 1; omega)
  obtain ⟨h1, h2, h3⟩ := h.ok
  clear h
  go_enter Try.func53, Try.ntmps53
  go_wp2_with fail
  refine (up_eq b 15 q _ (by omega) (by omega) (by omega) (by omega) hq.out).mono ?_
  rintro e w1 ⟨rfl, rfl⟩
  go_wp2
  go_ret
  exact ⟨rfl, hk.out⟩
theorem rregionLen (b s l r q : Int) (w : World) (h : Rf b s l r q) :
    Calls Try.prog 32 #[.agg #[.int .i64 b, .int .i64 s, .int .i64 l]] w fun e w' => e = .returned (.int .i64 r) ∧ Kept [] w w' := by
  have hk := hide ((Kept.refl [] w).alloc (.cells #[.int .i64 b, .int .i64 s, .int .i64 l] 31))
  have hr := hide (show (43 + 5 * s + 64 - 1) / 64 = r by rw [h.hr]; congr 1; omega)
  obtain ⟨h1, h2, h3⟩ := h.ok
  clear h
  go_enter Try.func32, Try.ntmps32
  go_wp2_with fail
  refine (up_eq (43 + 5 * s) 64 r _ (by omega) (by omega) (by omega) (by omega) hr.out).mono ?_
  rintro e w1 ⟨rfl, rfl⟩
  go_wp2
  go_ret
  exact ⟨rfl, hk.out⟩








/-- Where, of both. -/
def whereOf (s l r q a : Int) : Value := if 2 + 2 * r + 4 * q ≤ a ∧ a < 2 + 2 * r + 4 * q + s * l then .tuple #[.int .i64 ((a - (2 + 2 * r + 4 * q)) / l), .int .i64 ((a - (2 + 2 * r + 4 * q)) % l), .bool true] else .tuple #[.int .i64 0, .int .i64 0, .bool false]
end Go.Proofs.Ythacnlpdodlggaa.geom
