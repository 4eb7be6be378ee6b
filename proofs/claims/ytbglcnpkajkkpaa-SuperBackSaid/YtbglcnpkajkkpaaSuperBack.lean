/-
  The given statement SuperBackSaid is proved: whatever the arguments are, the law returns true and leaves its input as it was. No conditions.
-/
import Derived.Test.YtbglcnpkajkkpaaSuperMade
import Derived.Test.YtbglcnpkajkkpaaShapes
import Derived.Test.YtbglcnpkajkkpaaFar
import Derived.WalkKit
import Derived.ProofKit
import Derived.OpenShut
import Derived.ShutString
import Derived.ChangeOld
import Derived.Below
namespace Go.Proofs.Ytbglcnpkajkkpaa.superBack
open Go.ChangeShapes Go.WideShapes Go.ChangeAt Go.RowKit
open Go.ChangeMaps (open_string shut_string)
open Go.Proofs.Ytbglcnpkajkkpaa.mem Go.Proofs.Ytbglcnpkajkkpaa.base Go.Proofs.Ytbglcnpkajkkpaa.super
set_option linter.unusedVariables false

theorem own : ownKnob Try.prog.godebug = none := by kernel_rfl
theorem laidOut : laidOutB Try.prog = true := by kernel_rfl

set_option maxRecDepth 100000 in
set_option maxHeartbeats 1000000 in
theorem walk (a0_0 a0_1 a0_2 : Int) (a1 : Int) (a2 : Int) (w : World) (w0_0 : (Lit.int .i64 a0_0).wf = true) (w0_1 : (Lit.int .i64 a0_1).wf = true) (w0_2 : (Lit.int .i64 a0_2).wf = true) (w1 : (Lit.int .i64 a1).wf = true) (w2 : (Lit.int .i64 a2).wf = true) :
    Calls Try.prog 4 #[.agg #[.int .i64 a0_0, .int .i64 a0_1, .int .i64 a0_2], .int .i64 a1, .int .i64 a2] w fun e w' => e = .returned (.bool true) ∧ Below w.heap.size w w' := by
  obtain ⟨W1, hw1⟩ : ∃ W1, w.alloc (.cells #[.int .i64 a0_0, .int .i64 a0_1, .int .i64 a0_2] 40) = W1 := ⟨_, rfl⟩
  have hk1 : Kept [] w W1 := by rw [← hw1]; exact (Kept.refl [] w).alloc _
  have hb1 : Blk W1 w.heap.size 40 #[.int .i64 a0_0, .int .i64 a0_1, .int .i64 a0_2] := by rw [← hw1]; exact Blk.new w _ _
  have c0 : W1.cell? ⟨w.heap.size, 0, none⟩ = some (.int .i64 a0_0) := hb1.cell 0
  have c1 : W1.cell? ⟨w.heap.size, 1, none⟩ = some (.int .i64 a0_1) := hb1.cell 1
  have c2 : W1.cell? ⟨w.heap.size, 2, none⟩ = some (.int .i64 a0_2) := hb1.cell 2
  have HK1 := hide hk1
  clear hk1 hb1
  go_enter Try.func4, Try.ntmps4
  go_wp2_with fail
  refine (made_any a0_0 a0_1 a0_2 a1 a2 _).mono ?_
  rintro e W2 ⟨S, rfl, hS, hk⟩
  have HK2 := hide (HK1.out.trans hk (by simp))
  clear hk c0 c1 c2 hw1 HK1
  unfold Su.val
  obtain ⟨W3, hw3⟩ : ∃ W3, W2.alloc (.cells S.cells 25) = W3 := ⟨_, rfl⟩
  have hk3 : Kept [] W2 W3 := by rw [← hw3]; exact (Kept.refl [] W2).alloc _
  have hb3 : Blk W3 W2.heap.size 25 S.cells := by rw [← hw3]; exact Blk.new W2 _ _
  obtain ⟨g, hg⟩ : ∃ g, W2.heap.size = g := ⟨_, rfl⟩
  rw [hg] at hb3
  obtain ⟨d0, d1, d2, d3, d4⟩ := Su.cell_at hb3
  have HK3 := hide (HK2.out.trans hk3 (by simp))
  have HB3 := hide hb3
  clear hk3 hb3
  unfold Su.cells at hw3
  go_wp2_with fail
  refine (encode_yes S _ hS).mono ?_
  rintro e W4 ⟨A, c, rfl, hn, hk⟩
  have HK4 := hide (HK3.out.trans hk (by simp))
  have HB4 := hide (hk.blk HB3.out (by simp))
  have hv := hn.vals (S := []) (by simp)
  have hA := hn.nil0
  clear hk hn d0 d1 d2 d3 d4 hw3 hg
  go_wp2_with fail
  refine (decode_any A 64 c S.bytes _ hv S.bytes_len hA (by omega)).mono ?_
  rintro e W5 ⟨rfl, hk⟩
  rw [decode_bytes S hS]
  have hk5 := hk.alloc (.cells S.cells 25)
  have hb5 : Blk (W5.alloc (.cells S.cells 25)) W5.heap.size 25 S.cells := Blk.new W5 _ _
  obtain ⟨x, hx⟩ : ∃ x, W5.heap.size = x := ⟨_, rfl⟩
  rw [hx] at hb5
  obtain ⟨W6, hw6⟩ : ∃ W6, W5.alloc (.cells S.cells 25) = W6 := ⟨_, rfl⟩
  rw [hw6] at hk5 hb5
  unfold Su.cells at hw6
  obtain ⟨x0, x1, x2, x3, x4⟩ := Su.cell_at hb5
  obtain ⟨d0, d1, d2, d3, d4⟩ := Su.cell_at (hk5.blk HB4.out (by simp))
  have HK6 := hide (HK4.out.trans hk5 (by simp))
  have HB6 := hide (hk5.blk HB4.out (by simp))
  have HX6 := hide hb5
  clear hk hk5 hb5 hv hA
  unfold Su.val
  go_wp2_with fail
  refine (may_any S _).mono ?_
  rintro e W7 ⟨rfl, hk⟩
  rw [hS]
  have HK7 := hide (HK6.out.trans hk (by simp))
  clear hw6 hx x0 x1 x2 x3 x4 d0 d1 d2 d3 d4
  obtain ⟨x0, x1, x2, x3, x4⟩ := Su.cell_at (hk.blk HX6.out (by simp))
  obtain ⟨d0, d1, d2, d3, d4⟩ := Su.cell_at (hk.blk HB6.out (by simp))
  clear hk
  go_wp2_with fail
  refine (awake_any _).mono ?_
  rintro e W8 ⟨rfl, hk⟩
  have HK8 := hide (HK7.out.trans hk (by simp))
  clear hk
  go_wp2
  go_ret
  exact ⟨rfl, HK8.out.below (by simp)⟩

/-! ### the row's step, as the guide's skeleton has it -/
set_option maxRecDepth 100000 in
theorem lifted (os : Os) (started : os.Started) (H : Type) (enc : TypeId × Value → H) :
    ReturnsInHanded {} Try.checked os 4 .any (Rows.superBackSpec.pre6 enc Try.prog Try.f4 Rows.superBackRow.domain false) (Rows.superBackSpec.post enc Try.prog Try.f4 false true false false) := by
  refine returnsInHanded_of_change (C := Try.checked) own started (by kernel_rfl) Try.func4
    (ChangeSpec.witness6 (enc := enc) (C := Try.checked) false ⟨#[], #[.agg #[.int .i64 0, .int .i64 0, .int .i64 0], .int .i64 0, .int .i64 0], []⟩ 8 (by kernel_rfl) (by kernel_rfl) (by kernel_rfl) (by kernel_rfl)) ?_
  intro W base args ds gs before hval0 hW hcnd _
  have hval : ∀ (j : Nat) t v, Try.f4.params[j]? = some t → args[j]? = some v → Value.okWide Try.prog W .any base t v := hval0
  have hW' := hW
  obtain ⟨p, q, hA0, hV, rfl, hfz, hnd⟩ := hW
  have hA : DataW.TrodAll enc Try.prog W 0 (fun _ => true) true Try.f4.params.toList args.toList ds p := hA0
  rw [Try.params4] at hA hval
  obtain ⟨v0, vs0, d0, ds0, p0, q0, hargs, rfl, rfl, h0, r0⟩ := trodAll_cons hA
  obtain ⟨v1, vs1, d1, ds1, p1, q1, rfl, rfl, rfl, h1, r1⟩ := trodAll_cons r0
  obtain ⟨v2, vs2, d2, ds2, p2, q2, rfl, rfl, rfl, h2, r2⟩ := trodAll_cons r1
  obtain ⟨rfl, rfl, rfl⟩ := trodAll_nil r2
  obtain rfl : args = #[v0, v1, v2] := by cases args; simp_all
  obtain ⟨rfl, rfl⟩ := trodVars_none hV
  have k0 := h0
  have lt0 : ∀ x ∈ p0, x.block < W.heap.size := by obtain ⟨m, hm⟩ := k0; exact DataW.trod_lt m _ _ _ hm
  obtain ⟨xs0, rfl, hl0, hx0⟩ := agg_ints (ts := List.replicate 3 3) (n := 3) (by kernel_rfl) (by kernel_rfl) (fun u hu => by rw [List.eq_of_mem_replicate hu]; exact Try.underlying3) (by kernel_rfl) (hval 0 40 v0 rfl rfl)
  obtain ⟨a0_0, a0_1, a0_2, rfl⟩ := list3 hl0
  have w0_0 := hx0 a0_0 (by simp)
  have w0_1 := hx0 a0_1 (by simp)
  have w0_2 := hx0 a0_2 (by simp)
  obtain ⟨a1, rfl, rfl, rfl, w1⟩ := open_int Try.underlying3 (hval 1 3 v1 rfl rfl) h1
  obtain ⟨a2, rfl, rfl, rfl, w2⟩ := open_int Try.underlying3 (hval 2 3 v2 rfl rfl) h2
  clear hA0 hval0
  refine (walk a0_0 a0_1 a0_2 a1 a2 W w0_0 w0_1 w0_2 w1 w2).mono fun e W' ⟨he, bel⟩ => ?_
  subst he
  exact ⟨_, rfl, _, _, _, [], _, [], hW', trodAll_mk1 (shut_bool Try.underlying4 _), (trodAll_cons_mk (Below.trod laidOut (by kernel_rfl) (of_decide_eq_true (by kernel_rfl)) k0 bel lt0) (trodAll_cons_mk (shut_int Try.underlying3 w1) (trodAll_cons_mk (shut_int Try.underlying3 w2) trodAll_mk0))), rfl, bel.frame _, fun h => by cases h⟩

theorem over : Rows.superBackRow.holds Try.pinned (OpenSpec.ofChange Rows.superBackSpec) :=
  OpenClaim.holds_of_wide 4 Try.f4 rfl rfl rfl rfl rfl rfl rfl ⟨rfl, rfl, rfl, rfl, rfl⟩ rfl rfl rfl rfl rfl (by kernel_rfl) Try.func4 (by kernel_rfl)
    (of_decide_eq_true (by kernel_rfl)) (by unfold Func.isWrapper; first | (rw [if_pos (by decide +kernel)]; kernel_rfl) | (rw [if_neg (by decide +kernel)]; exact ⟨rfl, rfl⟩))
    (fun os started H enc _ => lifted os started H enc)

/-- The statement. -/
theorem proved : Rows.SuperBackSaid := over
#print axioms proved
end Go.Proofs.Ytbglcnpkajkkpaa.superBack

