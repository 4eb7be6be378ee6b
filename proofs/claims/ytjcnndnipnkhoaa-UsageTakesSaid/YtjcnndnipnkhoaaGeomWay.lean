/- Package geom: Page and Where. -/
import Derived.Test.YtjcnndnipnkhoaaGeomOps
namespace Go.Proofs.Ytjcnndnipnkhoaa.geom
open Go.RowKit Go.Proofs.Ytjcnndnipnkhoaa.mem Go.Proofs.Ytjcnndnipnkhoaa.base



/-- Which segment a sector lies in, and how far from its first one. -/
def isIn (s l r q a : Int) : Prop := 2 + 2 * r + 4 * q ≤ a ∧ a < 2 + 2 * r + 4 * q + s * l

set_option maxHeartbeats 1000000 in
theorem where_no (p : Nat) (b s l r q a : Int) (w : World) (h : GAt w p b s l r q) (ha : ¬ isIn s l r q a) :
    Calls Try.prog 48 #[.pointer (some ⟨p, 0, none⟩), .int .i64 a] w fun e w' => e = .returned (.tuple #[.int .i64 0, .int .i64 0, .bool false]) ∧ Kept [] w w' := by
  have H := hide h
  have hb := h.bounds
  have hs := sl_of h.ok
  have ha2 : a < 2 + 2 * r + 4 * q ∨ 2 + 2 * r + 4 * q + s * l - 1 < a := by unfold isIn at ha; omega
  clear h ha
  go_enter Try.func48, Try.ntmps48
  go_wp2_with fail
  refine (part_at p b s l r q 4 (by omega) _ H.out).mono ?_
  rintro e w1 ⟨rfl, hk1⟩
  unfold partOf PV
  have hb0 := Blk.new w1 68 #[.int .i64 (2 + 2 * r + 4 * q), .int .i64 s, .int .i64 l]
  have hka := hide (hk1.alloc (.cells #[.int .i64 (2 + 2 * r + 4 * q), .int .i64 s, .int .i64 l] 68))
  generalize hX : 2 + 2 * r + 4 * q = X at *
  have c0 : (w1.alloc (.cells #[.int .i64 X, .int .i64 s, .int .i64 l] 68)).cell? ⟨w1.heap.size, 0, none⟩ = some (.int .i64 X) := hb0.cell 0
  have c1 : (w1.alloc (.cells #[.int .i64 X, .int .i64 s, .int .i64 l] 68)).cell? ⟨w1.heap.size, 1, none⟩ = some (.int .i64 s) := hb0.cell 1
  have c2 : (w1.alloc (.cells #[.int .i64 X, .int .i64 s, .int .i64 l] 68)).cell? ⟨w1.heap.size, 2, none⟩ = some (.int .i64 l) := hb0.cell 2
  generalize hW : w1.alloc (.cells #[.int .i64 X, .int .i64 s, .int .i64 l] 68) = w2 at *
  go_wp2
  clear hb0 hW
  generalize w1.heap.size = g at *
  clear hk1
  have g1 : IntKind.i64.wrap (X + s * l - 1) = X + s * l - 1 := IntWalk.i64_in _ (by omega)
  go_region_held3 (fun W => W.cell? ⟨g, 0, none⟩ = some (.int .i64 X) ∧ W.cell? ⟨g, 1, none⟩ = some (.int .i64 s) ∧ W.cell? ⟨g, 2, none⟩ = some (.int .i64 l))
    (first | exact ⟨c0, c1, c2⟩ | exact ⟨d0, d1, d2⟩)
    (first
      | (go_at_call 62; refine (end_ok X s l _ (by omega) (by omega) (by omega) (by omega)).mono ?_; rintro e w3 ⟨rfl, hk3⟩; have d0 := hk3.cell (p := ⟨g, 0, none⟩) (show World.cell? _ ⟨g, 0, none⟩ = _ from c0) (by simp); have d1 := hk3.cell (p := ⟨g, 1, none⟩) (show World.cell? _ ⟨g, 1, none⟩ = _ from c1) (by simp); have d2 := hk3.cell (p := ⟨g, 2, none⟩) (show World.cell? _ ⟨g, 2, none⟩ = _ from c2) (by simp))
      | (go_at_call 64; refine (between_no a X (X + s * l - 1) _ ha2).mono ?_; rintro e w4 ⟨rfl, rfl⟩))
  have hk4 := hide (hka.out.drew.trans hk3 (by simp))
  clear hk3
  go_wp2
  go_ret3
  exact ⟨rfl, hk4.out⟩

set_option maxHeartbeats 1000000 in
theorem where_yes (p : Nat) (b s l r q a : Int) (w : World) (h : GAt w p b s l r q) (ha : isIn s l r q a) :
    Calls Try.prog 48 #[.pointer (some ⟨p, 0, none⟩), .int .i64 a] w fun e w' => e = .returned (.tuple #[.int .i64 ((a - (2 + 2 * r + 4 * q)) / l), .int .i64 ((a - (2 + 2 * r + 4 * q)) % l), .bool true]) ∧ Kept [] w w' := by
  have H := hide h
  have hb := h.bounds
  have hs := sl_of h.ok
  have ha2 : 2 + 2 * r + 4 * q ≤ a ∧ a ≤ 2 + 2 * r + 4 * q + s * l - 1 := by unfold isIn at ha; omega
  obtain ⟨_, _, hl1, hl2⟩ := h.ok
  clear h ha
  go_enter Try.func48, Try.ntmps48
  go_wp2_with fail
  refine (part_at p b s l r q 4 (by omega) _ H.out).mono ?_
  rintro e w1 ⟨rfl, hk1⟩
  unfold partOf PV
  have hb0 := Blk.new w1 68 #[.int .i64 (2 + 2 * r + 4 * q), .int .i64 s, .int .i64 l]
  have hka := hide (hk1.alloc (.cells #[.int .i64 (2 + 2 * r + 4 * q), .int .i64 s, .int .i64 l] 68))
  generalize hX : 2 + 2 * r + 4 * q = X at *
  have c0 : (w1.alloc (.cells #[.int .i64 X, .int .i64 s, .int .i64 l] 68)).cell? ⟨w1.heap.size, 0, none⟩ = some (.int .i64 X) := hb0.cell 0
  have c1 : (w1.alloc (.cells #[.int .i64 X, .int .i64 s, .int .i64 l] 68)).cell? ⟨w1.heap.size, 1, none⟩ = some (.int .i64 s) := hb0.cell 1
  have c2 : (w1.alloc (.cells #[.int .i64 X, .int .i64 s, .int .i64 l] 68)).cell? ⟨w1.heap.size, 2, none⟩ = some (.int .i64 l) := hb0.cell 2
  generalize hW : w1.alloc (.cells #[.int .i64 X, .int .i64 s, .int .i64 l] 68) = w2 at *
  go_wp2
  clear hb0 hW
  generalize w1.heap.size = g at *
  clear hk1
  have g1 : IntKind.i64.wrap (X + s * l - 1) = X + s * l - 1 := IntWalk.i64_in _ (by omega)
  go_region_held3 (fun W => W.cell? ⟨g, 0, none⟩ = some (.int .i64 X) ∧ W.cell? ⟨g, 1, none⟩ = some (.int .i64 s) ∧ W.cell? ⟨g, 2, none⟩ = some (.int .i64 l))
    (first | exact ⟨c0, c1, c2⟩ | exact ⟨d0, d1, d2⟩)
    (first
      | (go_at_call 62; refine (end_ok X s l _ (by omega) (by omega) (by omega) (by omega)).mono ?_; rintro e w3 ⟨rfl, hk3⟩; have d0 := hk3.cell (p := ⟨g, 0, none⟩) (show World.cell? _ ⟨g, 0, none⟩ = _ from c0) (by simp); have d1 := hk3.cell (p := ⟨g, 1, none⟩) (show World.cell? _ ⟨g, 1, none⟩ = _ from c1) (by simp); have d2 := hk3.cell (p := ⟨g, 2, none⟩) (show World.cell? _ ⟨g, 2, none⟩ = _ from c2) (by simp))
      | (go_at_call 64; refine (between_yes a X (X + s * l - 1) _ ha2).mono ?_; rintro e w4 ⟨rfl, rfl⟩))
  have hk4 := hide (hka.out.drew.trans hk3 (by simp))
  clear hk3
  have hl0 : (l == 0) = false := beq_eq_false_iff_ne.2 (by omega)
  have e1 : IntKind.i64.wrap (a - X) = a - X := IntWalk.i64_in _ (by omega)
  have q1 : 0 ≤ (a - X) / l := Int.ediv_nonneg (by omega) (by omega)
  have q2 : (a - X) / l ≤ a - X := Int.ediv_le_self _ (by omega)
  have e2 : IntKind.i64.wrap ((a - X) / l) = (a - X) / l := IntWalk.i64_in _ (by omega)
  go_wp2
  go_quiet (fail)
  go_wp2
  go_ret3
  exact ⟨by subst hX; rfl, hk4.out.drewN _⟩
end Go.Proofs.Ytjcnndnipnkhoaa.geom
