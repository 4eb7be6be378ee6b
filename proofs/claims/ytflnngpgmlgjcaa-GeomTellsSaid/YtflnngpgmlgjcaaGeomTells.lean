/-
  The given statement GeomTellsSaid is proved: whatever the arguments are, the law returns true and leaves its input as it was. No conditions.
-/
import Derived.Test.YtflnngpgmlgjcaaGeomAwake
import Derived.Test.YtflnngpgmlgjcaaShapes
import Derived.WalkKit
import Derived.ProofKit
import Derived.OpenShut
import Derived.ShutString
import Derived.ChangeOld
import Derived.Below
namespace Go.Proofs.Ytflnngpgmlgjcaa.geomTells
open Go.ChangeShapes Go.WideShapes Go.ChangeAt Go.RowKit
open Go.ChangeMaps (open_string shut_string)
open Go.Proofs.Ytflnngpgmlgjcaa.mem Go.Proofs.Ytflnngpgmlgjcaa.base Go.Proofs.Ytflnngpgmlgjcaa.geom
set_option linter.unusedVariables false

theorem own : ownKnob Try.prog.godebug = none := by kernel_rfl
theorem laidOut : laidOutB Try.prog = true := by kernel_rfl

set_option maxHeartbeats 1000000 in
theorem walk_no (b s l a c : Int) (ov : Bool) (w : World) (h : ¬ Ok b s l) :
    Calls Try.prog 3 #[.agg #[.int .i64 b, .int .i64 s, .int .i64 l], .int .i64 a, .int .i64 c, .bool ov] w fun e w' => e = .returned (.bool true) ∧ Below w.heap.size w w' := by
  have hk := hide ((Kept.refl [] w).alloc (.cells #[.int .i64 b, .int .i64 s, .int .i64 l] 23))
  have H := hide h
  clear h
  have hb0 := Blk.new w 23 #[.int .i64 b, .int .i64 s, .int .i64 l]
  have c0 : (w.alloc (.cells #[.int .i64 b, .int .i64 s, .int .i64 l] 23)).cell? ⟨w.heap.size, 0, none⟩ = some (.int .i64 b) := hb0.cell 0
  have c1 : (w.alloc (.cells #[.int .i64 b, .int .i64 s, .int .i64 l] 23)).cell? ⟨w.heap.size, 1, none⟩ = some (.int .i64 s) := hb0.cell 1
  have c2 : (w.alloc (.cells #[.int .i64 b, .int .i64 s, .int .i64 l] 23)).cell? ⟨w.heap.size, 2, none⟩ = some (.int .i64 l) := hb0.cell 2
  clear hb0
  go_enter Try.func3, Try.ntmps3
  go_wp2_with fail
  refine (new_no b s l _ H.out).mono ?_
  rintro e w1 ⟨rfl, hk1⟩
  have hkk := hide (hk.out.trans hk1 (by simp))
  have d0 := hk1.cell c0 (by simp)
  have d1 := hk1.cell c1 (by simp)
  have d2 := hk1.cell c2 (by simp)
  clear c0 c1 c2 hk1 hk
  go_wp2_with fail
  refine (rmay_no b s l _ H.out).mono ?_
  rintro e w2 ⟨rfl, hk2⟩
  have hk3 := hide (hkk.out.trans hk2 (by simp))
  clear d0 d1 d2 hk2 hkk
  go_wp2_with fail
  refine (awake_any _).mono ?_
  rintro e w3 ⟨rfl, hk4⟩
  go_wp2
  go_ret
  exact ⟨rfl, (hk3.out.trans hk4 (by simp)).below (by simp)⟩

theorem held {w1 W W' : World} {g : Nat} {b s l : Int} (h : Kept [] w1 W ∧ W.cell? ⟨g, 0, none⟩ = some (.int .i64 b) ∧ W.cell? ⟨g, 1, none⟩ = some (.int .i64 s) ∧ W.cell? ⟨g, 2, none⟩ = some (.int .i64 l)) (hk : Kept [] W W') :
    Kept [] w1 W' ∧ W'.cell? ⟨g, 0, none⟩ = some (.int .i64 b) ∧ W'.cell? ⟨g, 1, none⟩ = some (.int .i64 s) ∧ W'.cell? ⟨g, 2, none⟩ = some (.int .i64 l) :=
  ⟨h.1.trans hk (by simp), hk.cell h.2.1 (by simp), hk.cell h.2.2.1 (by simp), hk.cell h.2.2.2 (by simp)⟩

set_option maxRecDepth 100000 in
set_option maxHeartbeats 4000000 in
theorem walk_yes (b s l a c : Int) (ov : Bool) (w : World) (h : Ok b s l) (ha : -9223372036854775808 ≤ a ∧ a ≤ 9223372036854775807) :
    Calls Try.prog 3 #[.agg #[.int .i64 b, .int .i64 s, .int .i64 l], .int .i64 a, .int .i64 c, .bool ov] w fun e w' => e = .returned (.bool true) ∧ Below w.heap.size w w' := by
  have hk := hide ((Kept.refl [] w).alloc (.cells #[.int .i64 b, .int .i64 s, .int .i64 l] 23))
  have H := hide h
  clear h
  have hb0 := Blk.new w 23 #[.int .i64 b, .int .i64 s, .int .i64 l]
  have c0 : (w.alloc (.cells #[.int .i64 b, .int .i64 s, .int .i64 l] 23)).cell? ⟨w.heap.size, 0, none⟩ = some (.int .i64 b) := hb0.cell 0
  have c1 : (w.alloc (.cells #[.int .i64 b, .int .i64 s, .int .i64 l] 23)).cell? ⟨w.heap.size, 1, none⟩ = some (.int .i64 s) := hb0.cell 1
  have c2 : (w.alloc (.cells #[.int .i64 b, .int .i64 s, .int .i64 l] 23)).cell? ⟨w.heap.size, 2, none⟩ = some (.int .i64 l) := hb0.cell 2
  clear hb0
  go_enter Try.func3, Try.ntmps3
  go_wp2_with fail
  refine (new_yes b s l _ H.out).mono ?_
  rintro e w1 ⟨p, r, q, rfl, hg, hp, hk1⟩
  have HG0 := hide hg
  have HR := hide hg.rf
  have hkk := hide (hk.out.trans hk1 (by simp))
  have d0 := hk1.cell c0 (by simp)
  have d1 := hk1.cell c1 (by simp)
  have d2 := hk1.cell c2 (by simp)
  clear c0 c1 c2 hk1 hk hg hp
  go_wp2_with fail
  refine (rmay_yes b s l _ H.out).mono ?_
  rintro e w1 ⟨rfl, hk1⟩
  have HG := hide (HG0.out.kept hk1)
  have hk2 := hide (hkk.out.trans hk1 (by simp))
  have c0 := hk1.cell d0 (by simp)
  have c1 := hk1.cell d1 (by simp)
  have c2 := hk1.cell d2 (by simp)
  clear d0 d1 d2 hk1 hkk HG0
  go_wp2
  generalize w.heap.size = g at *
  go_region_held3 (fun W => Kept [] w1 W ∧ W.cell? ⟨g, 0, none⟩ = some (.int .i64 b) ∧ W.cell? ⟨g, 1, none⟩ = some (.int .i64 s) ∧ W.cell? ⟨g, 2, none⟩ = some (.int .i64 l))
    (first | exact ⟨(Kept.refl [] w1).drew, c0, c1, c2⟩ | exact held (by assumption) hk | assumption)
    (first
      | (go_at_call 10; have hS := ‹Kept [] w1 _ ∧ _›; refine (config_at p b s l r q _ (HG.out.kept hS.1)).mono ?_; rintro e wn ⟨rfl, hk⟩))
  have hS1 := ‹Kept [] w1 _ ∧ _›
  clear hS c0 c1 c2
  rename World => w2
  go_wp2_with fail
  refine (where_any p b s l r q a _ (HG.out.kept hS1.1)).mono ?_
  rintro e w3 ⟨rfl, hk3⟩
  have hS2 := held hS1 hk3
  obtain ⟨x, y, z, hw⟩ : ∃ x y z, whereOf s l r q a = .tuple #[.int .i64 x, .int .i64 y, .bool z] := by
    unfold whereOf
    split
    · exact ⟨_, _, _, rfl⟩
    · exact ⟨_, _, _, rfl⟩
  rw [hw]
  have HW := hide hw
  clear hw hS1 hk3
  have c0 := hS2.2.1
  have c1 := hS2.2.2.1
  have c2 := hS2.2.2.2
  go_wp2_with fail
  refine (rwhere b s l r q a _ HR.out ha).mono ?_
  rintro e w4 ⟨rfl, hk4⟩
  rw [HW.out]
  have hS3 := held hS2 hk4
  clear hS2 hk4 c0 c1 c2
  have c0 := hS3.2.1
  have c1 := hS3.2.2.1
  have c2 := hS3.2.2.2
  go_wp2
  go_region_held3 (fun W => Kept [] w1 W ∧ W.cell? ⟨g, 0, none⟩ = some (.int .i64 b) ∧ W.cell? ⟨g, 1, none⟩ = some (.int .i64 s) ∧ W.cell? ⟨g, 2, none⟩ = some (.int .i64 l))
    (first | exact ⟨hS3.1.drew, hS3.2⟩ | exact held (by assumption) hk | assumption)
    (first
      | (go_at_call 13; have hS := ‹Kept [] w1 _ ∧ _›; refine (pages_at p b s l r q _ (HG.out.kept hS.1)).mono ?_; rintro e wn ⟨rfl, hk⟩)
      | (go_at_call 14; have hS := ‹Kept [] w1 _ ∧ _›; refine (rpages b s l r q _ HR.out).mono ?_; rintro e wn ⟨rfl, hk⟩)
      | (go_at_call 15; have hS := ‹Kept [] w1 _ ∧ _›; refine (regionLen_at p b s l r q _ (HG.out.kept hS.1)).mono ?_; rintro e wn ⟨rfl, hk⟩)
      | (go_at_call 16; have hS := ‹Kept [] w1 _ ∧ _›; refine (rregionLen b s l r q _ HR.out).mono ?_; rintro e wn ⟨rfl, hk⟩)
      | (go_at_call 17; have hS := ‹Kept [] w1 _ ∧ _›; refine (sectors_at p b s l r q _ (HG.out.kept hS.1)).mono ?_; rintro e wn ⟨rfl, hk⟩)
      | (go_at_call 18; have hS := ‹Kept [] w1 _ ∧ _›; refine (rsectors b s l r q _ HR.out).mono ?_; rintro e wn ⟨rfl, hk⟩))
  have hS5 := ‹Kept [] w1 _ ∧ _›
  clear hS3 hS c0 c1 c2
  go_wp2
  go_region_held3 (fun W => Kept [] w1 W ∧ W.cell? ⟨g, 0, none⟩ = some (.int .i64 b) ∧ W.cell? ⟨g, 1, none⟩ = some (.int .i64 s) ∧ W.cell? ⟨g, 2, none⟩ = some (.int .i64 l))
    (first | exact ⟨hS5.1.drew, hS5.2⟩ | exact held (by assumption) hk | assumption)
    (first
      | (go_at_call 19; have hS := ‹Kept [] w1 _ ∧ _›; refine (super_any p b s l r q a _ (HG.out.kept hS.1)).mono ?_; rintro e wn ⟨rfl, hk⟩)
      | (go_at_call 20; have hS := ‹Kept [] w1 _ ∧ _›; refine (rsuperAt a _).mono ?_; rintro e wn ⟨rfl, rfl⟩)
      | (go_at_call 21; have hS := ‹Kept [] w1 _ ∧ _›; refine (region_any p b s l r q a _ (HG.out.kept hS.1)).mono ?_; rintro e wn ⟨rfl, hk⟩)
      | (go_at_call 22; have hS := ‹Kept [] w1 _ ∧ _›; refine (rregionAt b s l r q a _ HR.out).mono ?_; rintro e wn ⟨rfl, hk⟩)
      | (go_at_call 23; have hS := ‹Kept [] w1 _ ∧ _›; refine (page_any p b s l r q a c ov _ (HG.out.kept hS.1)).mono ?_; rintro e wn ⟨rfl, hk⟩)
      | (go_at_call 24; have hS := ‹Kept [] w1 _ ∧ _›; refine (rpageAt b s l r q a c ov _ HR.out).mono ?_; rintro e wn ⟨rfl, hk⟩)
      | (go_at_call 25; have hS := ‹Kept [] w1 _ ∧ _›; refine (seg_any p b s l r q a _ (HG.out.kept hS.1)).mono ?_; rintro e wn ⟨rfl, hk⟩)
      | (go_at_call 26; have hS := ‹Kept [] w1 _ ∧ _›; refine (rsegAt b s l r q a _ HR.out).mono ?_; rintro e wn ⟨rfl, hk⟩)
      | (go_at_call 27; have hS := ‹Kept [] w1 _ ∧ _›; refine (half_at p b s l r q _ (HG.out.kept hS.1)).mono ?_; rintro e wn ⟨rfl, rfl⟩)
      | (go_at_call 28; have hS := ‹Kept [] w1 _ ∧ _›; refine (rhalf b s l r q _ HR.out).mono ?_; rintro e wn ⟨rfl, hk⟩)
      | (go_at_call 29; have hS := ‹Kept [] w1 _ ∧ _›; refine (share_at p b s l r q _ (HG.out.kept hS.1)).mono ?_; rintro e wn ⟨rfl, rfl⟩)
      | (go_at_call 30; have hS := ‹Kept [] w1 _ ∧ _›; refine (rshare b s l r q _ HR.out).mono ?_; rintro e wn ⟨rfl, hk⟩)
      | (go_at_call 9; have hS := ‹Kept [] w1 _ ∧ _›; refine (awake_any _).mono ?_; rintro e wn ⟨rfl, hk⟩))
  have hS6 := ‹Kept [] w1 _ ∧ _›
  go_wp2
  go_ret
  exact ⟨rfl, (hk2.out.trans hS6.1 (by simp)).below (by simp)⟩

theorem walk (a0_0 a0_1 a0_2 : Int) (a1 : Int) (a2 : Int) (a3 : Bool) (w : World) (w0_0 : (Lit.int .i64 a0_0).wf = true) (w0_1 : (Lit.int .i64 a0_1).wf = true) (w0_2 : (Lit.int .i64 a0_2).wf = true) (w1 : (Lit.int .i64 a1).wf = true) (w2 : (Lit.int .i64 a2).wf = true) :
    Calls Try.prog 3 #[.agg #[.int .i64 a0_0, .int .i64 a0_1, .int .i64 a0_2], .int .i64 a1, .int .i64 a2, .bool a3] w fun e w' => e = .returned (.bool true) ∧ Below w.heap.size w w' := by
  by_cases h : Ok a0_0 a0_1 a0_2
  · exact walk_yes a0_0 a0_1 a0_2 a1 a2 a3 w h (bounds_i64 w1)
  · exact walk_no a0_0 a0_1 a0_2 a1 a2 a3 w h

/-! ### the row's step, as the guide's skeleton has it -/
set_option maxRecDepth 100000 in
theorem lifted (os : Os) (started : os.Started) (H : Type) (enc : TypeId × Value → H) :
    ReturnsInHanded {} Try.checked os 3 .any (Rows.geomTellsSpec.pre6 enc Try.prog Try.f3 Rows.geomTellsRow.domain false) (Rows.geomTellsSpec.post enc Try.prog Try.f3 false true false false) := by
  refine returnsInHanded_of_change (C := Try.checked) own started (by kernel_rfl) Try.func3
    (ChangeSpec.witness6 (enc := enc) (C := Try.checked) false ⟨#[], #[.agg #[.int .i64 0, .int .i64 0, .int .i64 0], .int .i64 0, .int .i64 0, .bool false], []⟩ 8 (by kernel_rfl) (by kernel_rfl) (by kernel_rfl) (by kernel_rfl)) ?_
  intro W base args ds gs before hval0 hW hcnd _
  have hval : ∀ (j : Nat) t v, Try.f3.params[j]? = some t → args[j]? = some v → Value.okWide Try.prog W .any base t v := hval0
  have hW' := hW
  obtain ⟨p, q, hA0, hV, rfl, hfz, hnd⟩ := hW
  have hA : DataW.TrodAll enc Try.prog W 0 (fun _ => true) true Try.f3.params.toList args.toList ds p := hA0
  rw [Try.params3] at hA hval
  obtain ⟨v0, vs0, d0, ds0, p0, q0, hargs, rfl, rfl, h0, r0⟩ := trodAll_cons hA
  obtain ⟨v1, vs1, d1, ds1, p1, q1, rfl, rfl, rfl, h1, r1⟩ := trodAll_cons r0
  obtain ⟨v2, vs2, d2, ds2, p2, q2, rfl, rfl, rfl, h2, r2⟩ := trodAll_cons r1
  obtain ⟨v3, vs3, d3, ds3, p3, q3, rfl, rfl, rfl, h3, r3⟩ := trodAll_cons r2
  obtain ⟨rfl, rfl, rfl⟩ := trodAll_nil r3
  obtain rfl : args = #[v0, v1, v2, v3] := by cases args; simp_all
  obtain ⟨rfl, rfl⟩ := trodVars_none hV
  have k0 := h0
  have lt0 : ∀ x ∈ p0, x.block < W.heap.size := by obtain ⟨m, hm⟩ := k0; exact DataW.trod_lt m _ _ _ hm
  obtain ⟨xs0, rfl, hl0, hx0⟩ := agg_ints (ts := List.replicate 3 3) (n := 3) (by kernel_rfl) (by kernel_rfl) (fun u hu => by rw [List.eq_of_mem_replicate hu]; exact Try.underlying3) (by kernel_rfl) (hval 0 23 v0 rfl rfl)
  obtain ⟨a0_0, a0_1, a0_2, rfl⟩ := list3 hl0
  have w0_0 := hx0 a0_0 (by simp)
  have w0_1 := hx0 a0_1 (by simp)
  have w0_2 := hx0 a0_2 (by simp)
  obtain ⟨a1, rfl, rfl, rfl, w1⟩ := open_int Try.underlying3 (hval 1 3 v1 rfl rfl) h1
  obtain ⟨a2, rfl, rfl, rfl, w2⟩ := open_int Try.underlying3 (hval 2 3 v2 rfl rfl) h2
  obtain ⟨a3, rfl, rfl, rfl⟩ := open_bool Try.underlying4 (hval 3 4 v3 rfl rfl) h3
  clear hA0 hval0
  refine (walk a0_0 a0_1 a0_2 a1 a2 a3 W w0_0 w0_1 w0_2 w1 w2).mono fun e W' ⟨he, bel⟩ => ?_
  subst he
  exact ⟨_, rfl, _, _, _, [], _, [], hW', trodAll_mk1 (shut_bool Try.underlying4 _), (trodAll_cons_mk (Below.trod laidOut (by kernel_rfl) (of_decide_eq_true (by kernel_rfl)) k0 bel lt0) (trodAll_cons_mk (shut_int Try.underlying3 w1) (trodAll_cons_mk (shut_int Try.underlying3 w2) (trodAll_cons_mk (shut_bool Try.underlying4 a3) trodAll_mk0)))), rfl, bel.frame _, fun h => by cases h⟩

theorem over : Rows.geomTellsRow.holds Try.pinned (OpenSpec.ofChange Rows.geomTellsSpec) :=
  OpenClaim.holds_of_wide 3 Try.f3 rfl rfl rfl rfl rfl rfl rfl ⟨rfl, rfl, rfl, rfl, rfl⟩ rfl rfl rfl rfl rfl (by kernel_rfl) Try.func3 (by kernel_rfl)
    (of_decide_eq_true (by kernel_rfl)) (by unfold Func.isWrapper; first | (rw [if_pos (by decide +kernel)]; kernel_rfl) | (rw [if_neg (by decide +kernel)]; exact ⟨rfl, rfl⟩))
    (fun os started H enc _ => lifted os started H enc)

/-- The statement. -/
theorem proved : Rows.GeomTellsSaid := over
#print axioms proved
end Go.Proofs.Ytflnngpgmlgjcaa.geomTells

