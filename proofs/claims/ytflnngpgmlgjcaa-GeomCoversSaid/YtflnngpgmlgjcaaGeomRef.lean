/- The reference's answers on what lies where. -/
import Derived.Test.YtflnngpgmlgjcaaGeomWay
import Derived.Test.YtflnngpgmlgjcaaAlike
namespace Go.Proofs.Ytflnngpgmlgjcaa.geom
open Go.RowKit Go.Proofs.Ytflnngpgmlgjcaa.mem Go.Proofs.Ytflnngpgmlgjcaa.base
set_option linter.unusedVariables false

theorem up_eq (n d x : Int) (w : World) (hn : 0 ≤ n) (hn2 : n ≤ 1000000) (hd : 1 ≤ d) (hd2 : d ≤ 1000000) (hx : (n + d - 1) / d = x) :
    Calls Try.prog 41 #[.int .i64 n, .int .i64 d] w fun e w' => e = .returned (.int .i64 x) ∧ w = w' := by
  subst hx
  have h0 : (d == 0) = false := beq_eq_false_iff_ne.2 (by omega)
  have h1 : Hid ((n + d - 1).tdiv d = (n + d - 1) / d) := hide (Int.tdiv_eq_ediv_of_nonneg (by omega))
  have h2 : 0 ≤ (n + d - 1).tdiv d := by rw [h1.out]; exact Int.ediv_nonneg (by omega) (by omega)
  have h3 : (n + d - 1).tdiv d ≤ n + d - 1 := by rw [h1.out]; exact Int.ediv_le_self _ (by omega)
  go_enter Try.func41, Try.ntmps41
  go_wp2
  go_ret
  exact ⟨congrArg (fun q => Ending.returned (.int .i64 q)) h1.out, rfl⟩

/-- What stands of a Config that may be. -/
structure Rf (b s l r q : Int) : Prop where
  ok : Ok b s l
  hr : r = (106 + 5 * s) / 64
  hq : q = (b + 14) / 15
theorem Rf.bounds {b s l r q : Int} (h : Rf b s l r q) : 2 ≤ r ∧ r ≤ 4 ∧ 1 ≤ q ∧ q ≤ 5 := bounds_of h.ok h.hr h.hq
theorem GAt.rf {w : World} {p : Nat} {b s l r q : Int} (h : GAt w p b s l r q) : Rf b s l r q := ⟨h.ok, h.hr, h.hq⟩
theorem Rf.of {b s l : Int} (h : Ok b s l) : ∃ r q, Rf b s l r q := ⟨_, _, h, rfl, rfl⟩

theorem rmay_yes (b s l : Int) (w : World) (h : Ok b s l) :
    Calls Try.prog 8 #[.agg #[.int .i64 b, .int .i64 s, .int .i64 l]] w fun e w' => e = .returned (.bool true) ∧ Kept [] w w' := by
  have hk := hide ((Kept.refl [] w).alloc (.cells #[.int .i64 b, .int .i64 s, .int .i64 l] 23))
  obtain ⟨h1, h2, h3⟩ := h
  go_enter Try.func8, Try.ntmps8
  go_wp2_with fail
  refine (within_yes b 1 64 _ h1).mono ?_
  rintro e w1 ⟨rfl, rfl⟩
  go_wp2_with fail
  refine (within_yes s 8 32 _ h2).mono ?_
  rintro e w1 ⟨rfl, rfl⟩
  go_wp2_with fail
  refine (within_yes l 24 64 _ h3).mono ?_
  rintro e w1 ⟨rfl, rfl⟩
  go_wp2
  go_ret
  exact ⟨rfl, hk.out⟩
theorem rmay_no (b s l : Int) (w : World) (h : ¬ Ok b s l) :
    Calls Try.prog 8 #[.agg #[.int .i64 b, .int .i64 s, .int .i64 l]] w fun e w' => e = .returned (.bool false) ∧ Kept [] w w' := by
  have hk := hide ((Kept.refl [] w).alloc (.cells #[.int .i64 b, .int .i64 s, .int .i64 l] 23))
  by_cases h1 : 1 ≤ b ∧ b ≤ 64
  · by_cases h2 : 8 ≤ s ∧ s ≤ 32
    · have h3 : ¬ (24 ≤ l ∧ l ≤ 64) := by
        unfold Ok at h
        omega
      have H3 := hide h3
      clear h h3
      go_enter Try.func8, Try.ntmps8
      go_wp2_with fail
      refine (within_yes b 1 64 _ h1).mono ?_
      rintro e w1 ⟨rfl, rfl⟩
      go_wp2_with fail
      refine (within_yes s 8 32 _ h2).mono ?_
      rintro e w1 ⟨rfl, rfl⟩
      go_wp2_with fail
      refine (within_no l 24 64 _ H3.out).mono ?_
      rintro e w1 ⟨rfl, rfl⟩
      go_wp2
      go_ret
      exact ⟨rfl, hk.out⟩
    · have H2 := hide h2
      clear h h2
      go_enter Try.func8, Try.ntmps8
      go_wp2_with fail
      refine (within_yes b 1 64 _ h1).mono ?_
      rintro e w1 ⟨rfl, rfl⟩
      go_wp2_with fail
      refine (within_no s 8 32 _ H2.out).mono ?_
      rintro e w1 ⟨rfl, rfl⟩
      go_wp2
      go_ret
      exact ⟨rfl, hk.out⟩
  · have H1 := hide h1
    clear h h1
    go_enter Try.func8, Try.ntmps8
    go_wp2_with fail
    refine (within_no b 1 64 _ H1.out).mono ?_
    rintro e w1 ⟨rfl, rfl⟩
    go_wp2
    go_ret
    exact ⟨rfl, hk.out⟩

theorem rpages (b s l r q : Int) (w : World) (h : Rf b s l r q) :
    Calls Try.prog 14 #[.agg #[.int .i64 b, .int .i64 s, .int .i64 l]] w fun e w' => e = .returned (.int .i64 q) ∧ Kept [] w w' := by
  have hk := hide ((Kept.refl [] w).alloc (.cells #[.int .i64 b, .int .i64 s, .int .i64 l] 23))
  have hq := hide (show (b + 15 - 1) / 15 = q by rw [h.hq]; congr 1; omega)
  obtain ⟨h1, h2, h3⟩ := h.ok
  clear h
  go_enter Try.func14, Try.ntmps14
  go_wp2_with fail
  refine (up_eq b 15 q _ (by omega) (by omega) (by omega) (by omega) hq.out).mono ?_
  rintro e w1 ⟨rfl, rfl⟩
  go_wp2
  go_ret
  exact ⟨rfl, hk.out⟩
theorem rregionLen (b s l r q : Int) (w : World) (h : Rf b s l r q) :
    Calls Try.prog 16 #[.agg #[.int .i64 b, .int .i64 s, .int .i64 l]] w fun e w' => e = .returned (.int .i64 r) ∧ Kept [] w w' := by
  have hk := hide ((Kept.refl [] w).alloc (.cells #[.int .i64 b, .int .i64 s, .int .i64 l] 23))
  have hr := hide (show (43 + 5 * s + 64 - 1) / 64 = r by rw [h.hr]; congr 1; omega)
  obtain ⟨h1, h2, h3⟩ := h.ok
  clear h
  go_enter Try.func16, Try.ntmps16
  go_wp2_with fail
  refine (up_eq (43 + 5 * s) 64 r _ (by omega) (by omega) (by omega) (by omega) hr.out).mono ?_
  rintro e w1 ⟨rfl, rfl⟩
  go_wp2
  go_ret
  exact ⟨rfl, hk.out⟩
theorem rhalf (b s l r q : Int) (w : World) (h : Rf b s l r q) :
    Calls Try.prog 28 #[.agg #[.int .i64 b, .int .i64 s, .int .i64 l]] w fun e w' => e = .returned (.int .i64 ((l - 2) / 2)) ∧ Kept [] w w' := by
  have hk := hide ((Kept.refl [] w).alloc (.cells #[.int .i64 b, .int .i64 s, .int .i64 l] 23))
  obtain ⟨h1, h2, h3⟩ := h.ok
  have h4 : Hid ((l - 2).tdiv 2 = (l - 2) / 2) := hide (by rw [Int.tdiv_eq_ediv_of_nonneg (by omega)])
  have h5 : 0 ≤ (l - 2).tdiv 2 ∧ (l - 2).tdiv 2 ≤ 100 := by rw [h4.out]; omega
  clear h
  go_enter Try.func28, Try.ntmps28
  go_wp2
  go_ret
  exact ⟨congrArg (fun q => Ending.returned (.int .i64 q)) h4.out, hk.out⟩

theorem rsuperAt (a : Int) (w : World) :
    Calls Try.prog 20 #[.int .i64 a] w fun e w' => e = .returned (.int .i64 (superAt a)) ∧ w = w' := by
  unfold superAt
  by_cases h : 0 ≤ a ∧ a ≤ 1
  · rw [if_pos h]
    go_enter Try.func20, Try.ntmps20
    go_wp2_with fail
    refine (within_yes a 0 1 _ h).mono ?_
    rintro e w1 ⟨rfl, rfl⟩
    go_wp2
    go_ret
    exact ⟨rfl, rfl⟩
  · rw [if_neg h]
    have H := hide h
    clear h
    go_enter Try.func20, Try.ntmps20
    go_wp2_with fail
    refine (within_no a 0 1 _ H.out).mono ?_
    rintro e w1 ⟨rfl, rfl⟩
    go_wp2
    go_ret
    exact ⟨rfl, rfl⟩

theorem rregionAt (b s l r q a : Int) (w : World) (h : Rf b s l r q) :
    Calls Try.prog 22 #[.agg #[.int .i64 b, .int .i64 s, .int .i64 l], .int .i64 a] w fun e w' => e = .returned (.int .i64 (regionAt r a)) ∧ Kept [] w w' := by
  have hk := hide ((Kept.refl [] w).alloc (.cells #[.int .i64 b, .int .i64 s, .int .i64 l] 23))
  have H := hide h
  have hb := h.bounds
  clear h
  unfold regionAt
  by_cases h : 0 ≤ a ∧ a ≤ 1
  · rw [if_pos h]
    have hm : 0 ≤ a * r ∧ a * r ≤ 2048 := mul_le (s := 31) h.1 (by omega) (by omega) (by omega) (by omega)
    go_enter Try.func22, Try.ntmps22
    go_wp2_with fail
    refine (within_yes a 0 1 _ h).mono ?_
    rintro e w1 ⟨rfl, rfl⟩
    go_wp2_with fail
    refine (rregionLen b s l r q _ H.out).mono ?_
    rintro e w1 ⟨rfl, hk1⟩
    go_wp2
    go_ret
    exact ⟨rfl, hk.out.trans hk1 (by simp)⟩
  · rw [if_neg h]
    have H2 := hide h
    clear h
    go_enter Try.func22, Try.ntmps22
    go_wp2_with fail
    refine (within_no a 0 1 _ H2.out).mono ?_
    rintro e w1 ⟨rfl, rfl⟩
    go_wp2
    go_ret
    exact ⟨rfl, hk.out⟩

set_option maxHeartbeats 1000000 in
theorem rsegAt_yes (b s l r q a : Int) (w : World) (h : Rf b s l r q) (hi : 0 ≤ a ∧ a ≤ s - 1) :
    Calls Try.prog 26 #[.agg #[.int .i64 b, .int .i64 s, .int .i64 l], .int .i64 a] w fun e w' => e = .returned (.int .i64 (2 + 2 * r + 4 * q + a * l)) ∧ Kept [] w w' := by
  have hk := hide ((Kept.refl [] w).alloc (.cells #[.int .i64 b, .int .i64 s, .int .i64 l] 23))
  have H := hide h
  have hb := h.bounds
  obtain ⟨_, hs, hl⟩ := h.ok
  have hm : 0 ≤ a * l ∧ a * l ≤ 2048 := mul_le (s := 31) hi.1 (by omega) (by omega) (by omega) (by omega)
  clear h
  have hb0 := Blk.new w 23 #[.int .i64 b, .int .i64 s, .int .i64 l]
  have c0 : (w.alloc (.cells #[.int .i64 b, .int .i64 s, .int .i64 l] 23)).cell? ⟨w.heap.size, 0, none⟩ = some (.int .i64 b) := hb0.cell 0
  have c1 : (w.alloc (.cells #[.int .i64 b, .int .i64 s, .int .i64 l] 23)).cell? ⟨w.heap.size, 1, none⟩ = some (.int .i64 s) := hb0.cell 1
  have c2 : (w.alloc (.cells #[.int .i64 b, .int .i64 s, .int .i64 l] 23)).cell? ⟨w.heap.size, 2, none⟩ = some (.int .i64 l) := hb0.cell 2
  clear hb0
  go_enter Try.func26, Try.ntmps26
  go_wp2_with fail
  refine (within_yes a 0 (s - 1) _ hi).mono ?_
  rintro e w1 ⟨rfl, rfl⟩
  generalize hW : w.alloc (.cells #[.int .i64 b, .int .i64 s, .int .i64 l] 23) = w1 at *
  go_wp2
  generalize w.heap.size = g at *
  have g1 : IntKind.i64.wrap (2 * r) = 2 * r := IntWalk.i64_in _ (by omega)
  have g2 : IntKind.i64.wrap (2 + 2 * r) = 2 + 2 * r := IntWalk.i64_in _ (by omega)
  have g3 : IntKind.i64.wrap (4 * q) = 4 * q := IntWalk.i64_in _ (by omega)
  have g4 : IntKind.i64.wrap (2 + 2 * r + 4 * q) = 2 + 2 * r + 4 * q := IntWalk.i64_in _ (by omega)
  have g5 : IntKind.i64.wrap (a * l) = a * l := IntWalk.i64_in _ (by omega)
  have g6 : IntKind.i64.wrap (2 + 2 * r + 4 * q + a * l) = 2 + 2 * r + 4 * q + a * l := IntWalk.i64_in _ (by omega)
  go_region_held3 (fun W => W.cell? ⟨g, 0, none⟩ = some (.int .i64 b) ∧ W.cell? ⟨g, 1, none⟩ = some (.int .i64 s) ∧ W.cell? ⟨g, 2, none⟩ = some (.int .i64 l))
    (first | exact ⟨c0, c1, c2⟩ | exact ⟨d0, d1, d2⟩ | exact ⟨f0, f1, f2⟩)
    (first
      | (go_at_call 16; refine (rregionLen b s l r q _ H.out).mono ?_; rintro e wr ⟨rfl, hkr⟩; have d0 := hkr.cell (p := ⟨g, 0, none⟩) (by first | exact c0 | exact f0) (by simp); have d1 := hkr.cell (p := ⟨g, 1, none⟩) (by first | exact c1 | exact f1) (by simp); have d2 := hkr.cell (p := ⟨g, 2, none⟩) (by first | exact c2 | exact f2) (by simp))
      | (go_at_call 14; refine (rpages b s l r q _ H.out).mono ?_; rintro e wq ⟨rfl, hkq⟩; have f0 := hkq.cell (p := ⟨g, 0, none⟩) (by first | exact c0 | exact d0) (by simp); have f1 := hkq.cell (p := ⟨g, 1, none⟩) (by first | exact c1 | exact d1) (by simp); have f2 := hkq.cell (p := ⟨g, 2, none⟩) (by first | exact c2 | exact d2) (by simp)))
  all_goals
    go_wp2
    go_ret
  exact ⟨rfl, (hk.out.drew.trans hkr (by simp)).trans hkq (by simp)⟩
theorem rsegAt_no (b s l r q a : Int) (w : World) (h : Rf b s l r q) (hi : ¬ (0 ≤ a ∧ a ≤ s - 1)) :
    Calls Try.prog 26 #[.agg #[.int .i64 b, .int .i64 s, .int .i64 l], .int .i64 a] w fun e w' => e = .returned (.int .i64 (-1)) ∧ Kept [] w w' := by
  have hk := hide ((Kept.refl [] w).alloc (.cells #[.int .i64 b, .int .i64 s, .int .i64 l] 23))
  obtain ⟨_, hs, hl⟩ := h.ok
  have HI := hide hi
  clear h hi
  go_enter Try.func26, Try.ntmps26
  go_wp2_with fail
  refine (within_no a 0 (s - 1) _ HI.out).mono ?_
  rintro e w1 ⟨rfl, rfl⟩
  go_wp2
  go_ret
  exact ⟨rfl, hk.out⟩
theorem rsegAt (b s l r q a : Int) (w : World) (h : Rf b s l r q) :
    Calls Try.prog 26 #[.agg #[.int .i64 b, .int .i64 s, .int .i64 l], .int .i64 a] w fun e w' => e = .returned (.int .i64 (segAt s l r q a)) ∧ Kept [] w w' := by
  unfold segAt
  by_cases hi : 0 ≤ a ∧ a ≤ s - 1
  · rw [if_pos hi]
    exact rsegAt_yes b s l r q a w h hi
  · rw [if_neg hi]
    exact rsegAt_no b s l r q a w h hi
theorem rseg0 (b s l r q : Int) (w : World) (h : Rf b s l r q) :
    Calls Try.prog 26 #[.agg #[.int .i64 b, .int .i64 s, .int .i64 l], .int .i64 0] w fun e w' => e = .returned (.int .i64 (2 + 2 * r + 4 * q)) ∧ Kept [] w w' := by
  refine (rsegAt_yes b s l r q 0 w h ?_).mono fun e w' ⟨he, hk⟩ => ⟨by rw [he]; simp, hk⟩
  obtain ⟨_, hs, hl⟩ := h.ok
  omega

set_option maxHeartbeats 1000000 in
theorem rsectors (b s l r q : Int) (w : World) (h : Rf b s l r q) :
    Calls Try.prog 18 #[.agg #[.int .i64 b, .int .i64 s, .int .i64 l]] w fun e w' => e = .returned (.int .i64 (2 + 2 * r + 4 * q + s * l)) ∧ Kept [] w w' := by
  have hk := hide ((Kept.refl [] w).alloc (.cells #[.int .i64 b, .int .i64 s, .int .i64 l] 23))
  have H := hide h
  have hb := h.bounds
  have hm := sl_of h.ok
  clear h
  have hb0 := Blk.new w 23 #[.int .i64 b, .int .i64 s, .int .i64 l]
  have c0 : (w.alloc (.cells #[.int .i64 b, .int .i64 s, .int .i64 l] 23)).cell? ⟨w.heap.size, 0, none⟩ = some (.int .i64 b) := hb0.cell 0
  have c1 : (w.alloc (.cells #[.int .i64 b, .int .i64 s, .int .i64 l] 23)).cell? ⟨w.heap.size, 1, none⟩ = some (.int .i64 s) := hb0.cell 1
  have c2 : (w.alloc (.cells #[.int .i64 b, .int .i64 s, .int .i64 l] 23)).cell? ⟨w.heap.size, 2, none⟩ = some (.int .i64 l) := hb0.cell 2
  clear hb0
  go_enter Try.func18, Try.ntmps18
  go_wp2
  generalize hW : w.alloc (.cells #[.int .i64 b, .int .i64 s, .int .i64 l] 23) = w1 at *
  generalize w.heap.size = g at *
  have g5 : IntKind.i64.wrap (s * l) = s * l := IntWalk.i64_in _ (by omega)
  have g6 : IntKind.i64.wrap (2 + 2 * r + 4 * q + s * l) = 2 + 2 * r + 4 * q + s * l := IntWalk.i64_in _ (by omega)
  go_region_held3 (fun W => W.cell? ⟨g, 0, none⟩ = some (.int .i64 b) ∧ W.cell? ⟨g, 1, none⟩ = some (.int .i64 s) ∧ W.cell? ⟨g, 2, none⟩ = some (.int .i64 l))
    (first | exact ⟨c0, c1, c2⟩ | exact ⟨d0, d1, d2⟩)
    (first
      | (go_at_call 26; refine (rseg0 b s l r q _ H.out).mono ?_; rintro e wr ⟨rfl, hkr⟩; have d0 := hkr.cell (p := ⟨g, 0, none⟩) (by exact c0) (by simp); have d1 := hkr.cell (p := ⟨g, 1, none⟩) (by exact c1) (by simp); have d2 := hkr.cell (p := ⟨g, 2, none⟩) (by exact c2) (by simp)))
  go_wp2
  go_ret
  exact ⟨rfl, hk.out.drew.trans hkr (by simp)⟩

set_option maxHeartbeats 1000000 in
theorem rshare (b s l r q : Int) (w : World) (h : Rf b s l r q) :
    Calls Try.prog 30 #[.agg #[.int .i64 b, .int .i64 s, .int .i64 l]] w fun e w' => e = .returned (.int .i64 ((s - 3) * ((l - 2) / 2 + 1) - 1)) ∧ Kept [] w w' := by
  have hk := hide ((Kept.refl [] w).alloc (.cells #[.int .i64 b, .int .i64 s, .int .i64 l] 23))
  have H := hide h
  obtain ⟨_, hs, hl⟩ := h.ok
  have hm := share_le hs hl
  have hd : 0 ≤ (l - 2) / 2 ∧ (l - 2) / 2 ≤ 100 := by omega
  generalize hx : (l - 2) / 2 = x at *
  have HX := hide hx
  clear h hx
  have hb0 := Blk.new w 23 #[.int .i64 b, .int .i64 s, .int .i64 l]
  have c0 : (w.alloc (.cells #[.int .i64 b, .int .i64 s, .int .i64 l] 23)).cell? ⟨w.heap.size, 0, none⟩ = some (.int .i64 b) := hb0.cell 0
  have c1 : (w.alloc (.cells #[.int .i64 b, .int .i64 s, .int .i64 l] 23)).cell? ⟨w.heap.size, 1, none⟩ = some (.int .i64 s) := hb0.cell 1
  have c2 : (w.alloc (.cells #[.int .i64 b, .int .i64 s, .int .i64 l] 23)).cell? ⟨w.heap.size, 2, none⟩ = some (.int .i64 l) := hb0.cell 2
  clear hb0
  go_enter Try.func30, Try.ntmps30
  go_wp2
  generalize hW : w.alloc (.cells #[.int .i64 b, .int .i64 s, .int .i64 l] 23) = w1 at *
  generalize w.heap.size = g at *
  have g1 : IntKind.i64.wrap (s - 2) = s - 2 := IntWalk.i64_in _ (by omega)
  have g2 : IntKind.i64.wrap (s - 2 - 1) = s - 3 := by rw [show s - 2 - 1 = s - 3 by omega]; exact IntWalk.i64_in _ (by omega)
  have g3 : IntKind.i64.wrap (x + 1) = x + 1 := IntWalk.i64_in _ (by omega)
  have g5 : IntKind.i64.wrap ((s - 3) * (x + 1)) = (s - 3) * (x + 1) := IntWalk.i64_in _ (by omega)
  have g6 : IntKind.i64.wrap ((s - 3) * (x + 1) - 1) = (s - 3) * (x + 1) - 1 := IntWalk.i64_in _ (by omega)
  go_region_held3 (fun W => W.cell? ⟨g, 0, none⟩ = some (.int .i64 b) ∧ W.cell? ⟨g, 1, none⟩ = some (.int .i64 s) ∧ W.cell? ⟨g, 2, none⟩ = some (.int .i64 l))
    (first | exact ⟨c0, c1, c2⟩ | exact ⟨d0, d1, d2⟩)
    (first
      | (go_at_call 28; refine (rhalf b s l r q _ H.out).mono ?_; rintro e wr ⟨rfl, hkr⟩; rw [HX.out]; have d0 := hkr.cell (p := ⟨g, 0, none⟩) (by exact c0) (by simp); have d1 := hkr.cell (p := ⟨g, 1, none⟩) (by exact c1) (by simp); have d2 := hkr.cell (p := ⟨g, 2, none⟩) (by exact c2) (by simp)))
  go_wp2
  go_ret
  exact ⟨rfl, hk.out.drew.trans hkr (by simp)⟩

theorem rpageAt_yes (b s l r q x y : Int) (over : Bool) (w : World) (h : Rf b s l r q) (hx : 0 ≤ x ∧ x ≤ q - 1) (hy : 0 ≤ y ∧ y ≤ 1) :
    Calls Try.prog 24 #[.agg #[.int .i64 b, .int .i64 s, .int .i64 l], .bool over, .int .i64 x, .int .i64 y] w fun e w' => e = .returned (.int .i64 (pageAt r q over x y)) ∧ Kept [] w w' := by
  have hk := hide ((Kept.refl [] w).alloc (.cells #[.int .i64 b, .int .i64 s, .int .i64 l] 23))
  have H := hide h
  have hb := h.bounds
  have hv : Hid (pageAt r q over x y = 2 + 2 * r + 2 * x + y + (if over then 2 * q else 0)) := hide (by unfold pageAt; rw [if_pos ⟨hy, hx⟩])
  have hb0 := Blk.new w 23 #[.int .i64 b, .int .i64 s, .int .i64 l]
  have c0 : (w.alloc (.cells #[.int .i64 b, .int .i64 s, .int .i64 l] 23)).cell? ⟨w.heap.size, 0, none⟩ = some (.int .i64 b) := hb0.cell 0
  have c1 : (w.alloc (.cells #[.int .i64 b, .int .i64 s, .int .i64 l] 23)).cell? ⟨w.heap.size, 1, none⟩ = some (.int .i64 s) := hb0.cell 1
  have c2 : (w.alloc (.cells #[.int .i64 b, .int .i64 s, .int .i64 l] 23)).cell? ⟨w.heap.size, 2, none⟩ = some (.int .i64 l) := hb0.cell 2
  clear hb0 h
  generalize hW : w.alloc (.cells #[.int .i64 b, .int .i64 s, .int .i64 l] 23) = w1 at *
  cases over
  · go_enter Try.func24, Try.ntmps24
    go_wp2_with fail
    refine (within_yes y 0 1 _ hy).mono ?_
    rintro e w2 ⟨rfl, rfl⟩
    go_wp2_with fail
    refine (rpages b s l r q _ H.out).mono ?_
    rintro e w2 ⟨rfl, hk2⟩
    have d0 := hk2.cell c0 (by simp)
    have d1 := hk2.cell c1 (by simp)
    have d2 := hk2.cell c2 (by simp)
    go_wp2_with fail
    refine (within_yes x 0 (q - 1) _ hx).mono ?_
    rintro e w3 ⟨rfl, rfl⟩
    go_wp2_with fail
    refine (rregionLen b s l r q _ H.out).mono ?_
    rintro e w3 ⟨rfl, hk3⟩
    have e0 := hk3.cell d0 (by simp)
    have e1 := hk3.cell d1 (by simp)
    have e2 := hk3.cell d2 (by simp)
    go_wp2
    go_ret
    exact ⟨congrArg (fun q => Ending.returned (.int .i64 q)) (by have := hv.out; simp at this; omega), (hk.out.trans hk2 (by simp)).trans hk3 (by simp)⟩
  · go_enter Try.func24, Try.ntmps24
    go_wp2_with fail
    refine (within_yes y 0 1 _ hy).mono ?_
    rintro e w2 ⟨rfl, rfl⟩
    go_wp2_with fail
    refine (rpages b s l r q _ H.out).mono ?_
    rintro e w2 ⟨rfl, hk2⟩
    have d0 := hk2.cell c0 (by simp)
    have d1 := hk2.cell c1 (by simp)
    have d2 := hk2.cell c2 (by simp)
    go_wp2_with fail
    refine (within_yes x 0 (q - 1) _ hx).mono ?_
    rintro e w3 ⟨rfl, rfl⟩
    go_wp2_with fail
    refine (rregionLen b s l r q _ H.out).mono ?_
    rintro e w3 ⟨rfl, hk3⟩
    have e0 := hk3.cell d0 (by simp)
    have e1 := hk3.cell d1 (by simp)
    have e2 := hk3.cell d2 (by simp)
    go_wp2_with fail
    refine (rpages b s l r q _ H.out).mono ?_
    rintro e w4 ⟨rfl, hk4⟩
    go_wp2
    go_ret
    exact ⟨congrArg (fun q => Ending.returned (.int .i64 q)) (by have := hv.out; simp at this; omega), ((hk.out.trans hk2 (by simp)).trans hk3 (by simp)).trans hk4 (by simp)⟩
theorem rpageAt_no (b s l r q x y : Int) (over : Bool) (w : World) (h : Rf b s l r q) (hx : ¬ (0 ≤ x ∧ x ≤ q - 1)) (hy : 0 ≤ y ∧ y ≤ 1) :
    Calls Try.prog 24 #[.agg #[.int .i64 b, .int .i64 s, .int .i64 l], .bool over, .int .i64 x, .int .i64 y] w fun e w' => e = .returned (.int .i64 (-1)) ∧ Kept [] w w' := by
  have hk := hide ((Kept.refl [] w).alloc (.cells #[.int .i64 b, .int .i64 s, .int .i64 l] 23))
  have H := hide h
  have hb := h.bounds
  have HX := hide hx
  clear h hx
  go_enter Try.func24, Try.ntmps24
  go_wp2_with fail
  refine (within_yes y 0 1 _ hy).mono ?_
  rintro e w2 ⟨rfl, rfl⟩
  go_wp2_with fail
  refine (rpages b s l r q _ H.out).mono ?_
  rintro e w2 ⟨rfl, hk2⟩
  go_wp2_with fail
  refine (within_no x 0 (q - 1) _ HX.out).mono ?_
  rintro e w3 ⟨rfl, rfl⟩
  go_wp2
  go_ret
  exact ⟨rfl, hk.out.trans hk2 (by simp)⟩
theorem rpageAt_no2 (b s l x y : Int) (over : Bool) (w : World) (hy : ¬ (0 ≤ y ∧ y ≤ 1)) :
    Calls Try.prog 24 #[.agg #[.int .i64 b, .int .i64 s, .int .i64 l], .bool over, .int .i64 x, .int .i64 y] w fun e w' => e = .returned (.int .i64 (-1)) ∧ Kept [] w w' := by
  have hk := hide ((Kept.refl [] w).alloc (.cells #[.int .i64 b, .int .i64 s, .int .i64 l] 23))
  have HY := hide hy
  clear hy
  go_enter Try.func24, Try.ntmps24
  go_wp2_with fail
  refine (within_no y 0 1 _ HY.out).mono ?_
  rintro e w2 ⟨rfl, rfl⟩
  go_wp2
  go_ret
  exact ⟨rfl, hk.out⟩
theorem rpageAt (b s l r q x y : Int) (over : Bool) (w : World) (h : Rf b s l r q) :
    Calls Try.prog 24 #[.agg #[.int .i64 b, .int .i64 s, .int .i64 l], .bool over, .int .i64 x, .int .i64 y] w fun e w' => e = .returned (.int .i64 (pageAt r q over x y)) ∧ Kept [] w w' := by
  by_cases hy : 0 ≤ y ∧ y ≤ 1
  · by_cases hx : 0 ≤ x ∧ x ≤ q - 1
    · exact rpageAt_yes b s l r q x y over w h hx hy
    · rw [show pageAt r q over x y = -1 by unfold pageAt; rw [if_neg (by omega)]]
      exact rpageAt_no b s l r q x y over w h hx hy
  · rw [show pageAt r q over x y = -1 by unfold pageAt; rw [if_neg (by omega)]]
    exact rpageAt_no2 b s l x y over w hy

set_option maxHeartbeats 1000000 in
theorem rwhere_lo (b s l r q a : Int) (w : World) (h : Rf b s l r q) (hr : -9223372036854775808 ≤ a ∧ a ≤ 9223372036854775807) (ha : a < 2 + 2 * r + 4 * q) :
    Calls Try.prog 12 #[.agg #[.int .i64 b, .int .i64 s, .int .i64 l], .int .i64 a] w fun e w' => e = .returned (.tuple #[.int .i64 0, .int .i64 0, .bool false]) ∧ Kept [] w w' := by
  have hk := hide ((Kept.refl [] w).alloc (.cells #[.int .i64 b, .int .i64 s, .int .i64 l] 23))
  have H := hide h
  have hb := h.bounds
  obtain ⟨_, hs, hl1, hl2⟩ := h.ok
  have hm := sl_of h.ok
  have hb0 := Blk.new w 23 #[.int .i64 b, .int .i64 s, .int .i64 l]
  have c0 : (w.alloc (.cells #[.int .i64 b, .int .i64 s, .int .i64 l] 23)).cell? ⟨w.heap.size, 0, none⟩ = some (.int .i64 b) := hb0.cell 0
  have c1 : (w.alloc (.cells #[.int .i64 b, .int .i64 s, .int .i64 l] 23)).cell? ⟨w.heap.size, 1, none⟩ = some (.int .i64 s) := hb0.cell 1
  have c2 : (w.alloc (.cells #[.int .i64 b, .int .i64 s, .int .i64 l] 23)).cell? ⟨w.heap.size, 2, none⟩ = some (.int .i64 l) := hb0.cell 2
  clear hb0
  clear h
  go_enter Try.func12, Try.ntmps12
  go_wp2_with fail
  refine (rseg0 b s l r q _ H.out).mono ?_
  rintro e w1 ⟨rfl, hk1⟩
  have hkk := hide (hk.out.trans hk1 (by simp))
  have d0 := hk1.cell c0 (by simp)
  have d1 := hk1.cell c1 (by simp)
  have d2 := hk1.cell c2 (by simp)
  clear c0 c1 c2 hk1 hk
  generalize w.heap.size = g at *
  go_wp2_with fail
  refine (rseg0 b s l r q _ H.out).mono ?_
  rintro e w2 ⟨rfl, hk2⟩
  have hk3 := hide (hkk.out.trans hk2 (by simp))
  have c0 := hk2.cell d0 (by simp)
  have c1 := hk2.cell d1 (by simp)
  have c2 := hk2.cell d2 (by simp)
  clear d0 d1 d2 hk2
  generalize hX : 2 + 2 * r + 4 * q = X at *
  clear hX
  go_wp2
  go_ret3
  exact ⟨rfl, hk3.out⟩
set_option maxHeartbeats 1000000 in
theorem rwhere_hi (b s l r q a : Int) (w : World) (h : Rf b s l r q) (hr : -9223372036854775808 ≤ a ∧ a ≤ 9223372036854775807) (ha : 2 + 2 * r + 4 * q + s * l ≤ a) :
    Calls Try.prog 12 #[.agg #[.int .i64 b, .int .i64 s, .int .i64 l], .int .i64 a] w fun e w' => e = .returned (.tuple #[.int .i64 0, .int .i64 0, .bool false]) ∧ Kept [] w w' := by
  have hk := hide ((Kept.refl [] w).alloc (.cells #[.int .i64 b, .int .i64 s, .int .i64 l] 23))
  have H := hide h
  have hb := h.bounds
  obtain ⟨_, hs, hl1, hl2⟩ := h.ok
  have hm := sl_of h.ok
  have hb0 := Blk.new w 23 #[.int .i64 b, .int .i64 s, .int .i64 l]
  have c0 : (w.alloc (.cells #[.int .i64 b, .int .i64 s, .int .i64 l] 23)).cell? ⟨w.heap.size, 0, none⟩ = some (.int .i64 b) := hb0.cell 0
  have c1 : (w.alloc (.cells #[.int .i64 b, .int .i64 s, .int .i64 l] 23)).cell? ⟨w.heap.size, 1, none⟩ = some (.int .i64 s) := hb0.cell 1
  have c2 : (w.alloc (.cells #[.int .i64 b, .int .i64 s, .int .i64 l] 23)).cell? ⟨w.heap.size, 2, none⟩ = some (.int .i64 l) := hb0.cell 2
  clear hb0
  clear h
  go_enter Try.func12, Try.ntmps12
  go_wp2_with fail
  refine (rseg0 b s l r q _ H.out).mono ?_
  rintro e w1 ⟨rfl, hk1⟩
  have hkk := hide (hk.out.trans hk1 (by simp))
  have d0 := hk1.cell c0 (by simp)
  have d1 := hk1.cell c1 (by simp)
  have d2 := hk1.cell c2 (by simp)
  clear c0 c1 c2 hk1 hk
  generalize w.heap.size = g at *
  go_wp2_with fail
  refine (rseg0 b s l r q _ H.out).mono ?_
  rintro e w2 ⟨rfl, hk2⟩
  have hk3 := hide (hkk.out.trans hk2 (by simp))
  have c0 := hk2.cell d0 (by simp)
  have c1 := hk2.cell d1 (by simp)
  have c2 := hk2.cell d2 (by simp)
  clear d0 d1 d2 hk2
  generalize hX : 2 + 2 * r + 4 * q = X at *
  clear hX
  go_wp2
  go_ret3
  exact ⟨rfl, hk3.out⟩
set_option maxHeartbeats 1000000 in
theorem rwhere_in (b s l r q a : Int) (w : World) (h : Rf b s l r q) (hr : -9223372036854775808 ≤ a ∧ a ≤ 9223372036854775807) (ha : 2 + 2 * r + 4 * q ≤ a) (ha2 : a < 2 + 2 * r + 4 * q + s * l) :
    Calls Try.prog 12 #[.agg #[.int .i64 b, .int .i64 s, .int .i64 l], .int .i64 a] w fun e w' => e = .returned (.tuple #[.int .i64 ((a - (2 + 2 * r + 4 * q)) / l), .int .i64 ((a - (2 + 2 * r + 4 * q)) % l), .bool true]) ∧ Kept [] w w' := by
  have hk := hide ((Kept.refl [] w).alloc (.cells #[.int .i64 b, .int .i64 s, .int .i64 l] 23))
  have H := hide h
  have hb := h.bounds
  obtain ⟨_, hs, hl1, hl2⟩ := h.ok
  have hm := sl_of h.ok
  have hb0 := Blk.new w 23 #[.int .i64 b, .int .i64 s, .int .i64 l]
  have c0 : (w.alloc (.cells #[.int .i64 b, .int .i64 s, .int .i64 l] 23)).cell? ⟨w.heap.size, 0, none⟩ = some (.int .i64 b) := hb0.cell 0
  have c1 : (w.alloc (.cells #[.int .i64 b, .int .i64 s, .int .i64 l] 23)).cell? ⟨w.heap.size, 1, none⟩ = some (.int .i64 s) := hb0.cell 1
  have c2 : (w.alloc (.cells #[.int .i64 b, .int .i64 s, .int .i64 l] 23)).cell? ⟨w.heap.size, 2, none⟩ = some (.int .i64 l) := hb0.cell 2
  clear hb0
  clear h
  go_enter Try.func12, Try.ntmps12
  go_wp2_with fail
  refine (rseg0 b s l r q _ H.out).mono ?_
  rintro e w1 ⟨rfl, hk1⟩
  have hkk := hide (hk.out.trans hk1 (by simp))
  have d0 := hk1.cell c0 (by simp)
  have d1 := hk1.cell c1 (by simp)
  have d2 := hk1.cell c2 (by simp)
  clear c0 c1 c2 hk1 hk
  generalize w.heap.size = g at *
  go_wp2_with fail
  refine (rseg0 b s l r q _ H.out).mono ?_
  rintro e w2 ⟨rfl, hk2⟩
  have hk3 := hide (hkk.out.trans hk2 (by simp))
  have c0 := hk2.cell d0 (by simp)
  have c1 := hk2.cell d1 (by simp)
  have c2 := hk2.cell d2 (by simp)
  clear d0 d1 d2 hk2
  generalize hX : 2 + 2 * r + 4 * q = X at *
  have q1 : 0 ≤ (a - X) / l := Int.ediv_nonneg (by omega) (by omega)
  have q2 : (a - X) / l ≤ a - X := Int.ediv_le_self _ (by omega)
  have e2 : IntKind.i64.wrap ((a - X) / l) = (a - X) / l := IntWalk.i64_in _ (by omega)
  have hl0 : (l == 0) = false := beq_eq_false_iff_ne.2 (by omega)
  go_wp2
  go_quiet (fail)
  go_wp2
  go_ret3
  exact ⟨by subst hX; rfl, hk3.out.drewN _⟩

/-- Where, of both. -/
def whereOf (s l r q a : Int) : Value := if 2 + 2 * r + 4 * q ≤ a ∧ a < 2 + 2 * r + 4 * q + s * l then .tuple #[.int .i64 ((a - (2 + 2 * r + 4 * q)) / l), .int .i64 ((a - (2 + 2 * r + 4 * q)) % l), .bool true] else .tuple #[.int .i64 0, .int .i64 0, .bool false]
theorem rwhere (b s l r q a : Int) (w : World) (h : Rf b s l r q) (hr : -9223372036854775808 ≤ a ∧ a ≤ 9223372036854775807) :
    Calls Try.prog 12 #[.agg #[.int .i64 b, .int .i64 s, .int .i64 l], .int .i64 a] w fun e w' => e = .returned (whereOf s l r q a) ∧ Kept [] w w' := by
  unfold whereOf
  split
  · exact rwhere_in b s l r q a w h hr (by omega) (by omega)
  · by_cases ha : a < 2 + 2 * r + 4 * q
    · exact rwhere_lo b s l r q a w h hr ha
    · exact rwhere_hi b s l r q a w h hr (by omega)
theorem where_any (p : Nat) (b s l r q a : Int) (w : World) (h : GAt w p b s l r q) :
    Calls Try.prog 11 #[.pointer (some ⟨p, 0, none⟩), .int .i64 a] w fun e w' => e = .returned (whereOf s l r q a) ∧ Kept [] w w' := by
  unfold whereOf
  split
  · rename_i ha
    exact where_yes p b s l r q a w h ha
  · rename_i ha
    exact where_no p b s l r q a w h ha
end Go.Proofs.Ytflnngpgmlgjcaa.geom
