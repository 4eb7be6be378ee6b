/-
  The given statement GeomWhereSaid is proved: whatever the arguments are, the law returns true and leaves its input as it was. No conditions.
-/
import Derived.Test.YtflnngpgmlgjcaaGeomMore
import Derived.Test.YtflnngpgmlgjcaaShapes
import Derived.Test.YtflnngpgmlgjcaaHeld
import Derived.WalkKit
import Derived.ProofKit
import Derived.OpenShut
import Derived.ShutString
import Derived.ChangeOld
import Derived.Below
namespace Go.Proofs.Ytflnngpgmlgjcaa.geomWhere
open Go.ChangeShapes Go.WideShapes Go.ChangeAt Go.RowKit
open Go.ChangeMaps (open_string shut_string)
open Go.Proofs.Ytflnngpgmlgjcaa.mem Go.Proofs.Ytflnngpgmlgjcaa.base Go.Proofs.Ytflnngpgmlgjcaa.geom
set_option linter.unusedVariables false

theorem own : ownKnob Try.prog.godebug = none := by kernel_rfl
theorem laidOut : laidOutB Try.prog = true := by kernel_rfl

set_option maxRecDepth 100000 in
set_option maxHeartbeats 4000000 in
theorem walk_in (a0_0 a0_1 a0_2 x y : Int) (w : World) :
    Calls Try.prog 5 #[.agg #[.int .i64 a0_0, .int .i64 a0_1, .int .i64 a0_2], .int .i64 x, .int .i64 y] w fun e w' => e = .returned (.bool true) ∧ Below w.heap.size w w' := by
  have hk := hide ((Kept.refl [] w).alloc (.cells #[.int .i64 a0_0, .int .i64 a0_1, .int .i64 a0_2] 41))
  go_enter Try.func5, Try.ntmps5
  go_wp2_with fail
  refine (config_any a0_0 a0_1 a0_2 _).mono ?_
  rintro e w1 ⟨b, s, l, rfl, ho, hk1⟩
  have hka := hide ((hk.out.trans hk1 (by simp)).alloc (.cells #[.int .i64 b, .int .i64 s, .int .i64 l] 23))
  have hb0 := Blk.new w1 23 #[.int .i64 b, .int .i64 s, .int .i64 l]
  have c0 : (w1.alloc (.cells #[.int .i64 b, .int .i64 s, .int .i64 l] 23)).cell? ⟨w1.heap.size, 0, none⟩ = some (.int .i64 b) := hb0.cell 0
  have c1 : (w1.alloc (.cells #[.int .i64 b, .int .i64 s, .int .i64 l] 23)).cell? ⟨w1.heap.size, 1, none⟩ = some (.int .i64 s) := hb0.cell 1
  have c2 : (w1.alloc (.cells #[.int .i64 b, .int .i64 s, .int .i64 l] 23)).cell? ⟨w1.heap.size, 2, none⟩ = some (.int .i64 l) := hb0.cell 2
  have HO := hide ho
  clear hb0 hk hk1
  go_wp2_with fail
  refine (new_yes b s l _ HO.out).mono ?_
  rintro e w2 ⟨p, r, q, rfl, hg, hp, hk2⟩
  have HG := hide hg
  have hb := hg.bounds
  obtain ⟨ho1, ho2, ho3⟩ := ho
  have HK := hide (hka.out.trans hk2 (by simp))
  have d0 := hk2.cell c0 (by simp)
  have d1 := hk2.cell c1 (by simp)
  have d2 := hk2.cell c2 (by simp)
  clear c0 c1 c2 hg hp hk2 hka
  generalize w1.heap.size = g at *
  have hS2 : Kept [] w2 w2 ∧ w2.cell? ⟨g, 0, none⟩ = some (.int .i64 b) ∧ w2.cell? ⟨g, 1, none⟩ = some (.int .i64 s) ∧ w2.cell? ⟨g, 2, none⟩ = some (.int .i64 l) := ⟨Kept.refl _ _, d0, d1, d2⟩
  clear d0 d1 d2
  have hX : 1 ≤ 2 + 2 * r + 4 * q ∧ 2 + 2 * r + 4 * q ≤ 100 := by omega
  have hsl := hide (sl_of HO.out)
  have hx := hide (show 0 ≤ x % s ∧ x % s ≤ s - 1 from ⟨Int.emod_nonneg _ (by omega), by have := Int.emod_lt_of_pos x (show 0 < s by omega); omega⟩)
  have hy := hide (show 0 ≤ y % l ∧ y % l < l from ⟨Int.emod_nonneg _ (by omega), Int.emod_lt_of_pos y (by omega)⟩)
  have hz := hide (show 0 ≤ y % (2 + 2 * r + 4 * q) ∧ y % (2 + 2 * r + 4 * q) < 2 + 2 * r + 4 * q from ⟨Int.emod_nonneg _ (by omega), Int.emod_lt_of_pos y (by omega)⟩)
  have ht := hide (show 0 ≤ x % 1000 ∧ x % 1000 < 1000 from ⟨Int.emod_nonneg _ (by omega), Int.emod_lt_of_pos x (by omega)⟩)
  have c1 := hS2.2.2.1
  have c2 := hS2.2.2.2
  have HG2 := HG
  go_wp2_with fail
  refine (seg0_at p b s l r q _ HG2.out).mono ?_
  rintro e w3 ⟨rfl, hk⟩
  have hS3 := stood hS2 hk
  clear hk hS2
  have HG3 := hide (HG.out.kept hS3.1)
  clear c1 c2
  go_wp2
  go_region_held3 (fun W => Kept [] w2 W ∧ W.cell? ⟨g, 0, none⟩ = some (.int .i64 b) ∧ W.cell? ⟨g, 1, none⟩ = some (.int .i64 s) ∧ W.cell? ⟨g, 2, none⟩ = some (.int .i64 l))
    (first | exact ⟨hS3.1.drew, hS3.2⟩)
    (first
      | (go_at_call 33; first | (refine (round_any x s _ (by omega) (by omega)).mono ?_; rintro e wn ⟨rfl, rfl⟩) | (refine (round_any y l _ (by omega) (by omega)).mono ?_; rintro e wn ⟨rfl, rfl⟩)))
  have hS4 := ‹Kept [] w2 _ ∧ _›
  clear hS3 HG2 HG3
  have HG4 := hide (HG.out.kept hS4.1)
  generalize x % s = u at *
  generalize y % l = v at *
  have hm := in_seg hx.out hy.out
  have hsl' := hsl.out
  have hy' := hy.out
  go_wp2_with fail
  refine (seg_any p b s l r q u _ HG4.out).mono ?_
  rintro e w5 ⟨rfl, hk⟩
  rw [segAt_in hx.out]
  have hS5 := stood hS4 hk
  clear hk hS4
  have HG5 := hide (HG.out.kept hS5.1)
  go_wp2_with fail
  refine (where_in p b s l r q u v _ HG5.out hx.out hy.out).mono ?_
  rintro e w6 ⟨rfl, hk⟩
  have hS6 := stood hS5 hk
  clear hk hS5
  have HG6 := hide (HG.out.kept hS6.1)
  go_wp2_with fail
  refine (seg0_at p b s l r q _ HG6.out).mono ?_
  rintro e w7 ⟨rfl, hk⟩
  have hS7 := stood hS6 hk
  clear hk hS6
  have HG7 := hide (HG.out.kept hS7.1)
  go_wp2_with fail
  refine (round_any y (2 + 2 * r + 4 * q) _ (by omega) (by omega)).mono ?_
  rintro e w8 ⟨rfl, rfl⟩
  generalize hZ : y % (2 + 2 * r + 4 * q) = z1 at *
  go_wp2_with fail
  refine (where_no p b s l r q z1 _ HG7.out (by have := hz.out; unfold isIn; omega)).mono ?_
  rintro e w8 ⟨rfl, hk⟩
  have hS8 := stood hS7 hk
  clear hk hS7
  have HG8 := hide (HG.out.kept hS8.1)
  go_wp2_with fail
  refine (sectors_at p b s l r q _ HG8.out).mono ?_
  rintro e w9 ⟨rfl, hk⟩
  have hS9 := stood hS8 hk
  clear hk hS8
  have HG9 := hide (HG.out.kept hS9.1)
  go_wp2_with fail
  refine (round_any x 1000 _ (by omega) (by omega)).mono ?_
  rintro e w10 ⟨rfl, rfl⟩
  generalize hT : x % 1000 = t1 at *
  have ht' := ht.out
  go_wp2_with fail
  refine (where_no p b s l r q _ _ HG9.out (by have := ht.out; unfold isIn; omega)).mono ?_
  rintro e w10 ⟨rfl, hk⟩
  have hS10 := stood hS9 hk
  clear hk hS9
  have HG10 := hide (HG.out.kept hS10.1)
  go_wp2_with fail
  refine (round_any x 1000 _ (by omega) (by omega)).mono ?_
  rintro e w11 ⟨rfl, rfl⟩
  rw [hT]
  go_wp2_with fail
  refine (where_no p b s l r q (-1 - t1) _ HG10.out (by have := ht.out; unfold isIn; omega)).mono ?_
  rintro e w11 ⟨rfl, hk⟩
  have hS11 := stood hS10 hk
  clear hk hS10
  have HG11 := hide (HG.out.kept hS11.1)
  go_wp2_with fail
  refine (awake_any _).mono ?_
  rintro e w12 ⟨rfl, hk⟩
  have hS12 := stood hS11 hk
  go_wp2
  go_ret
  exact ⟨rfl, (HK.out.trans hS12.1 (by simp)).below (by simp)⟩

theorem walk (a0_0 a0_1 a0_2 : Int) (a1 : Int) (a2 : Int) (w : World) (w0_0 : (Lit.int .i64 a0_0).wf = true) (w0_1 : (Lit.int .i64 a0_1).wf = true) (w0_2 : (Lit.int .i64 a0_2).wf = true) (w1 : (Lit.int .i64 a1).wf = true) (w2 : (Lit.int .i64 a2).wf = true) :
    Calls Try.prog 5 #[.agg #[.int .i64 a0_0, .int .i64 a0_1, .int .i64 a0_2], .int .i64 a1, .int .i64 a2] w fun e w' => e = .returned (.bool true) ∧ Below w.heap.size w w' := by
  exact walk_in a0_0 a0_1 a0_2 a1 a2 w

/-! ### the row's step, as the guide's skeleton has it -/
set_option maxRecDepth 100000 in
theorem lifted (os : Os) (started : os.Started) (H : Type) (enc : TypeId × Value → H) :
    ReturnsInHanded {} Try.checked os 5 .any (Rows.geomWhereSpec.pre6 enc Try.prog Try.f5 Rows.geomWhereRow.domain false) (Rows.geomWhereSpec.post enc Try.prog Try.f5 false true false false) := by
  refine returnsInHanded_of_change (C := Try.checked) own started (by kernel_rfl) Try.func5
    (ChangeSpec.witness6 (enc := enc) (C := Try.checked) false ⟨#[], #[.agg #[.int .i64 0, .int .i64 0, .int .i64 0], .int .i64 0, .int .i64 0], []⟩ 8 (by kernel_rfl) (by kernel_rfl) (by kernel_rfl) (by kernel_rfl)) ?_
  intro W base args ds gs before hval0 hW hcnd _
  have hval : ∀ (j : Nat) t v, Try.f5.params[j]? = some t → args[j]? = some v → Value.okWide Try.prog W .any base t v := hval0
  have hW' := hW
  obtain ⟨p, q, hA0, hV, rfl, hfz, hnd⟩ := hW
  have hA : DataW.TrodAll enc Try.prog W 0 (fun _ => true) true Try.f5.params.toList args.toList ds p := hA0
  rw [Try.params5] at hA hval
  obtain ⟨v0, vs0, d0, ds0, p0, q0, hargs, rfl, rfl, h0, r0⟩ := trodAll_cons hA
  obtain ⟨v1, vs1, d1, ds1, p1, q1, rfl, rfl, rfl, h1, r1⟩ := trodAll_cons r0
  obtain ⟨v2, vs2, d2, ds2, p2, q2, rfl, rfl, rfl, h2, r2⟩ := trodAll_cons r1
  obtain ⟨rfl, rfl, rfl⟩ := trodAll_nil r2
  obtain rfl : args = #[v0, v1, v2] := by cases args; simp_all
  obtain ⟨rfl, rfl⟩ := trodVars_none hV
  have k0 := h0
  have lt0 : ∀ x ∈ p0, x.block < W.heap.size := by obtain ⟨m, hm⟩ := k0; exact DataW.trod_lt m _ _ _ hm
  obtain ⟨xs0, rfl, hl0, hx0⟩ := agg_ints (ts := List.replicate 3 3) (n := 3) (by kernel_rfl) (by kernel_rfl) (fun u hu => by rw [List.eq_of_mem_replicate hu]; exact Try.underlying3) (by kernel_rfl) (hval 0 41 v0 rfl rfl)
  obtain ⟨a0_0, a0_1, a0_2, rfl⟩ := list3 hl0
  have w0_0 := hx0 a0_0 (by simp)
  have w0_1 := hx0 a0_1 (by simp)
  have w0_2 := hx0 a0_2 (by simp)
  obtain ⟨a1, rfl, rfl, rfl, w1⟩ := open_int Try.underlying3 (hval 1 3 v1 rfl rfl) h1
  obtain ⟨a2, rfl, rfl, rfl, w2⟩ := open_int Try.underlying3 (hval 2 3 v2 rfl rfl) h2
  clear hA0 hval0
  refine (walk a0_0 a0_1 a0_2 a1 a2 W w0_0 w0_1 w0_2 w1 w2).mono fun e W' ⟨he, bel⟩ => ?_
  subst he
  exact ⟨_, rfl, _, _, _, [], _, [], hW', trodAll_mk1 (shut_bool Try.underlying4 _), (trodAll_cons_mk (Below.trod laidOut (by kernel_rfl) (of_decide_eq_true (by kernel_rfl)) k0 bel lt0) (trodAll_cons_mk (shut_int Try.underlying3 w1) (trodAll_cons_mk (shut_int Try.underlying3 w2) trodAll_mk0))), rfl, bel.frame _, fun h => by cases h⟩

theorem over : Rows.geomWhereRow.holds Try.pinned (OpenSpec.ofChange Rows.geomWhereSpec) :=
  OpenClaim.holds_of_wide 5 Try.f5 rfl rfl rfl rfl rfl rfl rfl ⟨rfl, rfl, rfl, rfl, rfl⟩ rfl rfl rfl rfl rfl (by kernel_rfl) Try.func5 (by kernel_rfl)
    (of_decide_eq_true (by kernel_rfl)) (by unfold Func.isWrapper; first | (rw [if_pos (by decide +kernel)]; kernel_rfl) | (rw [if_neg (by decide +kernel)]; exact ⟨rfl, rfl⟩))
    (fun os started H enc _ => lifted os started H enc)

/-- The statement. -/
theorem proved : Rows.GeomWhereSaid := over
#print axioms proved
end Go.Proofs.Ytflnngpgmlgjcaa.geomWhere

