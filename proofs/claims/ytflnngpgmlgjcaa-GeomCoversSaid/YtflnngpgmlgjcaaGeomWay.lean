/- Package geom: Page and Where. -/
import Derived.Test.YtflnngpgmlgjcaaGeomOps
namespace Go.Proofs.Ytflnngpgmlgjcaa.geom
open Go.RowKit Go.Proofs.Ytflnngpgmlgjcaa.mem Go.Proofs.Ytflnngpgmlgjcaa.base

theorem page_yes (p : Nat) (b s l r q x y : Int) (over : Bool) (w : World) (h : GAt w p b s l r q) (hx : 0 ≤ x ∧ x ≤ q - 1) (hy : 0 ≤ y ∧ y ≤ 1) :
    Calls Try.prog 23 #[.pointer (some ⟨p, 0, none⟩), .bool over, .int .i64 x, .int .i64 y] w fun e w' => e = .returned (.int .i64 (pageAt r q over x y)) ∧ Kept [] w w' := by
  have H := hide h
  have hb := h.bounds
  have hv : Hid (pageAt r q over x y = 2 + 2 * r + 2 * x + y + (if over then 2 * q else 0)) := hide (by unfold pageAt; rw [if_pos ⟨hy, hx⟩])
  clear h
  cases over
  · go_enter Try.func23, Try.ntmps23
    go_wp2_with fail
    refine (pages_at p b s l r q _ H.out).mono ?_
    rintro e w1 ⟨rfl, hk1⟩
    go_wp2_with fail
    refine (between_yes x 0 (q - 1) _ hx).mono ?_
    rintro e w2 ⟨rfl, rfl⟩
    go_wp2_with fail
    refine (between_yes y 0 1 _ hy).mono ?_
    rintro e w2 ⟨rfl, rfl⟩
    go_wp2_with fail
    refine (part_at p b s l r q 2 (by omega) _ (H.out.kept hk1)).mono ?_
    rintro e w2 ⟨rfl, hk2⟩
    unfold partOf
    go_wp2_with fail
    refine (first_yes (2 + 2 * r) (2 * q) 1 (2 * x + y) _ (by omega) (by omega) (by omega) (by omega) (by omega) (by omega) (by omega)).mono ?_
    rintro e w3 ⟨rfl, hk3⟩
    go_wp2
    go_ret
    exact ⟨congrArg (fun q => Ending.returned (.int .i64 q)) (by have := hv.out; simp at this; omega), (hk1.trans hk2 (by simp)).trans hk3 (by simp)⟩
  · go_enter Try.func23, Try.ntmps23
    go_wp2_with fail
    refine (pages_at p b s l r q _ H.out).mono ?_
    rintro e w1 ⟨rfl, hk1⟩
    go_wp2_with fail
    refine (between_yes x 0 (q - 1) _ hx).mono ?_
    rintro e w2 ⟨rfl, rfl⟩
    go_wp2_with fail
    refine (between_yes y 0 1 _ hy).mono ?_
    rintro e w2 ⟨rfl, rfl⟩
    go_wp2_with fail
    refine (part_at p b s l r q 3 (by omega) _ (H.out.kept hk1)).mono ?_
    rintro e w2 ⟨rfl, hk2⟩
    unfold partOf
    go_wp2_with fail
    refine (first_yes (2 + 2 * r + 2 * q) (2 * q) 1 (2 * x + y) _ (by omega) (by omega) (by omega) (by omega) (by omega) (by omega) (by omega)).mono ?_
    rintro e w3 ⟨rfl, hk3⟩
    go_wp2
    go_ret
    exact ⟨congrArg (fun q => Ending.returned (.int .i64 q)) (by have := hv.out; simp at this; omega), (hk1.trans hk2 (by simp)).trans hk3 (by simp)⟩

theorem page_no (p : Nat) (b s l r q x y : Int) (over : Bool) (w : World) (h : GAt w p b s l r q) (hx : x < 0 ∨ q - 1 < x) :
    Calls Try.prog 23 #[.pointer (some ⟨p, 0, none⟩), .bool over, .int .i64 x, .int .i64 y] w fun e w' => e = .returned (.int .i64 (-1)) ∧ Kept [] w w' := by
  have H := hide h
  have hb := h.bounds
  clear h
  go_enter Try.func23, Try.ntmps23
  go_wp2_with fail
  refine (pages_at p b s l r q _ H.out).mono ?_
  rintro e w1 ⟨rfl, hk1⟩
  go_wp2_with fail
  refine (between_no x 0 (q - 1) _ hx).mono ?_
  rintro e w2 ⟨rfl, rfl⟩
  go_wp2
  go_ret
  exact ⟨rfl, hk1⟩
theorem page_no2 (p : Nat) (b s l r q x y : Int) (over : Bool) (w : World) (h : GAt w p b s l r q) (hx : 0 ≤ x ∧ x ≤ q - 1) (hy : y < 0 ∨ 1 < y) :
    Calls Try.prog 23 #[.pointer (some ⟨p, 0, none⟩), .bool over, .int .i64 x, .int .i64 y] w fun e w' => e = .returned (.int .i64 (-1)) ∧ Kept [] w w' := by
  have H := hide h
  have hb := h.bounds
  clear h
  go_enter Try.func23, Try.ntmps23
  go_wp2_with fail
  refine (pages_at p b s l r q _ H.out).mono ?_
  rintro e w1 ⟨rfl, hk1⟩
  go_wp2_with fail
  refine (between_yes x 0 (q - 1) _ hx).mono ?_
  rintro e w2 ⟨rfl, rfl⟩
  go_wp2_with fail
  refine (between_no y 0 1 _ hy).mono ?_
  rintro e w2 ⟨rfl, rfl⟩
  go_wp2
  go_ret
  exact ⟨rfl, hk1⟩
theorem page_any (p : Nat) (b s l r q x y : Int) (over : Bool) (w : World) (h : GAt w p b s l r q) :
    Calls Try.prog 23 #[.pointer (some ⟨p, 0, none⟩), .bool over, .int .i64 x, .int .i64 y] w fun e w' => e = .returned (.int .i64 (pageAt r q over x y)) ∧ Kept [] w w' := by
  by_cases hx : 0 ≤ x ∧ x ≤ q - 1
  · by_cases hy : 0 ≤ y ∧ y ≤ 1
    · exact page_yes p b s l r q x y over w h hx hy
    · rw [show pageAt r q over x y = -1 by unfold pageAt; rw [if_neg (by omega)]]
      exact page_no2 p b s l r q x y over w h hx (by omega)
  · rw [show pageAt r q over x y = -1 by unfold pageAt; rw [if_neg (by omega)]]
    exact page_no p b s l r q x y over w h (by omega)

/-- Which segment a sector lies in, and how far from its first one. -/
def isIn (s l r q a : Int) : Prop := 2 + 2 * r + 4 * q ≤ a ∧ a < 2 + 2 * r + 4 * q + s * l

set_option maxHeartbeats 1000000 in
theorem where_no (p : Nat) (b s l r q a : Int) (w : World) (h : GAt w p b s l r q) (ha : ¬ isIn s l r q a) :
    Calls Try.prog 11 #[.pointer (some ⟨p, 0, none⟩), .int .i64 a] w fun e w' => e = .returned (.tuple #[.int .i64 0, .int .i64 0, .bool false]) ∧ Kept [] w w' := by
  have H := hide h
  have hb := h.bounds
  have hs := sl_of h.ok
  have ha2 : a < 2 + 2 * r + 4 * q ∨ 2 + 2 * r + 4 * q + s * l - 1 < a := by unfold isIn at ha; omega
  clear h ha
  go_enter Try.func11, Try.ntmps11
  go_wp2_with fail
  refine (part_at p b s l r q 4 (by omega) _ H.out).mono ?_
  rintro e w1 ⟨rfl, hk1⟩
  unfold partOf PV
  have hb0 := Blk.new w1 50 #[.int .i64 (2 + 2 * r + 4 * q), .int .i64 s, .int .i64 l]
  have hka := hide (hk1.alloc (.cells #[.int .i64 (2 + 2 * r + 4 * q), .int .i64 s, .int .i64 l] 50))
  generalize hX : 2 + 2 * r + 4 * q = X at *
  have c0 : (w1.alloc (.cells #[.int .i64 X, .int .i64 s, .int .i64 l] 50)).cell? ⟨w1.heap.size, 0, none⟩ = some (.int .i64 X) := hb0.cell 0
  have c1 : (w1.alloc (.cells #[.int .i64 X, .int .i64 s, .int .i64 l] 50)).cell? ⟨w1.heap.size, 1, none⟩ = some (.int .i64 s) := hb0.cell 1
  have c2 : (w1.alloc (.cells #[.int .i64 X, .int .i64 s, .int .i64 l] 50)).cell? ⟨w1.heap.size, 2, none⟩ = some (.int .i64 l) := hb0.cell 2
  generalize hW : w1.alloc (.cells #[.int .i64 X, .int .i64 s, .int .i64 l] 50) = w2 at *
  go_wp2
  clear hb0 hW
  generalize w1.heap.size = g at *
  clear hk1
  have g1 : IntKind.i64.wrap (X + s * l - 1) = X + s * l - 1 := IntWalk.i64_in _ (by omega)
  go_region_held3 (fun W => W.cell? ⟨g, 0, none⟩ = some (.int .i64 X) ∧ W.cell? ⟨g, 1, none⟩ = some (.int .i64 s) ∧ W.cell? ⟨g, 2, none⟩ = some (.int .i64 l))
    (first | exact ⟨c0, c1, c2⟩ | exact ⟨d0, d1, d2⟩)
    (first
      | (go_at_call 40; refine (end_ok X s l _ (by omega) (by omega) (by omega) (by omega)).mono ?_; rintro e w3 ⟨rfl, hk3⟩; have d0 := hk3.cell (p := ⟨g, 0, none⟩) (show World.cell? _ ⟨g, 0, none⟩ = _ from c0) (by simp); have d1 := hk3.cell (p := ⟨g, 1, none⟩) (show World.cell? _ ⟨g, 1, none⟩ = _ from c1) (by simp); have d2 := hk3.cell (p := ⟨g, 2, none⟩) (show World.cell? _ ⟨g, 2, none⟩ = _ from c2) (by simp))
      | (go_at_call 39; refine (between_no a X (X + s * l - 1) _ ha2).mono ?_; rintro e w4 ⟨rfl, rfl⟩))
  have hk4 := hide (hka.out.drew.trans hk3 (by simp))
  clear hk3
  go_wp2
  go_ret3
  exact ⟨rfl, hk4.out⟩

set_option maxHeartbeats 1000000 in
theorem where_yes (p : Nat) (b s l r q a : Int) (w : World) (h : GAt w p b s l r q) (ha : isIn s l r q a) :
    Calls Try.prog 11 #[.pointer (some ⟨p, 0, none⟩), .int .i64 a] w fun e w' => e = .returned (.tuple #[.int .i64 ((a - (2 + 2 * r + 4 * q)) / l), .int .i64 ((a - (2 + 2 * r + 4 * q)) % l), .bool true]) ∧ Kept [] w w' := by
  have H := hide h
  have hb := h.bounds
  have hs := sl_of h.ok
  have ha2 : 2 + 2 * r + 4 * q ≤ a ∧ a ≤ 2 + 2 * r + 4 * q + s * l - 1 := by unfold isIn at ha; omega
  obtain ⟨_, _, hl1, hl2⟩ := h.ok
  clear h ha
  go_enter Try.func11, Try.ntmps11
  go_wp2_with fail
  refine (part_at p b s l r q 4 (by omega) _ H.out).mono ?_
  rintro e w1 ⟨rfl, hk1⟩
  unfold partOf PV
  have hb0 := Blk.new w1 50 #[.int .i64 (2 + 2 * r + 4 * q), .int .i64 s, .int .i64 l]
  have hka := hide (hk1.alloc (.cells #[.int .i64 (2 + 2 * r + 4 * q), .int .i64 s, .int .i64 l] 50))
  generalize hX : 2 + 2 * r + 4 * q = X at *
  have c0 : (w1.alloc (.cells #[.int .i64 X, .int .i64 s, .int .i64 l] 50)).cell? ⟨w1.heap.size, 0, none⟩ = some (.int .i64 X) := hb0.cell 0
  have c1 : (w1.alloc (.cells #[.int .i64 X, .int .i64 s, .int .i64 l] 50)).cell? ⟨w1.heap.size, 1, none⟩ = some (.int .i64 s) := hb0.cell 1
  have c2 : (w1.alloc (.cells #[.int .i64 X, .int .i64 s, .int .i64 l] 50)).cell? ⟨w1.heap.size, 2, none⟩ = some (.int .i64 l) := hb0.cell 2
  generalize hW : w1.alloc (.cells #[.int .i64 X, .int .i64 s, .int .i64 l] 50) = w2 at *
  go_wp2
  clear hb0 hW
  generalize w1.heap.size = g at *
  clear hk1
  have g1 : IntKind.i64.wrap (X + s * l - 1) = X + s * l - 1 := IntWalk.i64_in _ (by omega)
  go_region_held3 (fun W => W.cell? ⟨g, 0, none⟩ = some (.int .i64 X) ∧ W.cell? ⟨g, 1, none⟩ = some (.int .i64 s) ∧ W.cell? ⟨g, 2, none⟩ = some (.int .i64 l))
    (first | exact ⟨c0, c1, c2⟩ | exact ⟨d0, d1, d2⟩)
    (first
      | (go_at_call 40; refine (end_ok X s l _ (by omega) (by omega) (by omega) (by omega)).mono ?_; rintro e w3 ⟨rfl, hk3⟩; have d0 := hk3.cell (p := ⟨g, 0, none⟩) (show World.cell? _ ⟨g, 0, none⟩ = _ from c0) (by simp); have d1 := hk3.cell (p := ⟨g, 1, none⟩) (show World.cell? _ ⟨g, 1, none⟩ = _ from c1) (by simp); have d2 := hk3.cell (p := ⟨g, 2, none⟩) (show World.cell? _ ⟨g, 2, none⟩ = _ from c2) (by simp))
      | (go_at_call 39; refine (between_yes a X (X + s * l - 1) _ ha2).mono ?_; rintro e w4 ⟨rfl, rfl⟩))
  have hk4 := hide (hka.out.drew.trans hk3 (by simp))
  clear hk3
  have hl0 : (l == 0) = false := beq_eq_false_iff_ne.2 (by omega)
  have e1 : IntKind.i64.wrap (a - X) = a - X := IntWalk.i64_in _ (by omega)
  have q1 : 0 ≤ (a - X) / l := Int.ediv_nonneg (by omega) (by omega)
  have q2 : (a - X) / l ≤ a - X := Int.ediv_le_self _ (by omega)
  have e2 : IntKind.i64.wrap ((a - X) / l) = (a - X) / l := IntWalk.i64_in _ (by omega)
  go_wp2
  go_quiet (fail)
  go_wp2
  go_ret3
  exact ⟨by subst hX; rfl, hk4.out.drewN _⟩
end Go.Proofs.Ytflnngpgmlgjcaa.geom
