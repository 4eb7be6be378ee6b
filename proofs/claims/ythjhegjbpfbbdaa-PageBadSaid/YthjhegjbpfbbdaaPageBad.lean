/-
  The given statement PageBadSaid is proved: whatever the arguments are, the law returns true and leaves its input as it was. No conditions.
-/
import Derived.Test.YthjhegjbpfbbdaaPageAwake
import Derived.Test.YthjhegjbpfbbdaaShapes
import Derived.WalkKit
import Derived.ProofKit
import Derived.OpenShut
import Derived.ShutString
import Derived.ChangeOld
import Derived.Below
namespace Go.Proofs.Ythjhegjbpfbbdaa.pageBad
open Go.ChangeShapes Go.WideShapes Go.ChangeAt Go.RowKit
open Go.ChangeMaps (open_string shut_string)
open Go.Proofs.Ythjhegjbpfbbdaa.mem Go.Proofs.Ythjhegjbpfbbdaa.base Go.Proofs.Ythjhegjbpfbbdaa.pg
set_option linter.unusedVariables false

theorem own : ownKnob Try.prog.godebug = none := by kernel_rfl

set_option maxRecDepth 100000 in
theorem walk_good (n a x : Int) (w : World) (h : -1 ≤ x ∧ x ≤ 4095) :
    Calls Try.prog 5 #[.int .i64 n, .int .i64 a, .int .i64 x] w fun e w' => e = .returned (.bool true) ∧ Below w.heap.size w w' := by
  have g1 : -1 ≤ x := by omega
  have g2 : x < 4096 := by omega
  clear h
  go_enter Try.func5, Try.ntmps5
  go_wp2_with fail
  refine (awake_any _).mono ?_
  rintro e W2 ⟨rfl, hk⟩
  have HK2 := hide hk
  clear hk
  go_wp2
  go_ret
  exact ⟨rfl, HK2.out.below (by simp)⟩

set_option maxRecDepth 100000 in
set_option maxHeartbeats 1000000 in
theorem walk_low (n a x : Int) (w : World) (h : x < -1) :
    Calls Try.prog 5 #[.int .i64 n, .int .i64 a, .int .i64 x] w fun e w' => e = .returned (.bool true) ∧ Below w.heap.size w w' := by
  have HN : Hid (¬ (-1 ≤ x ∧ x ≤ 4095)) := hide (by omega)
  have g1 : ¬ -1 ≤ x := by omega
  clear h
  go_enter Try.func5, Try.ntmps5
  go_wp2_with fail
  refine (base.round_ex n 15 _ (by omega) (by omega)).mono ?_
  rintro e W1 ⟨k, hk, rfl, rfl⟩
  obtain ⟨m, hm⟩ : ∃ m : Nat, 1 + (k : Int) = m := ⟨1 + k, by omega⟩
  have hm1 : m ≤ 15 := by omega
  have hm0 : 0 < m := by omega
  have hmk := run_make_ints m (by omega) w
  obtain ⟨W2, hw2⟩ : ∃ W2, w.alloc (.cells (cellsOf (List.replicate m 0)) 3) = W2 := ⟨_, rfl⟩
  have hk2 : Kept [] w W2 := by rw [← hw2]; exact (Kept.refl [] w).alloc _
  have hb2 : Blk W2 w.heap.size 3 (cellsOf (List.replicate m 0)) := by rw [← hw2]; exact Blk.new w _ _
  obtain ⟨g, hg⟩ : ∃ g, w.heap.size = g := ⟨_, rfl⟩
  have HG : Hid (w.heap.size ≤ g) := hide (Nat.le_of_eq hg)
  rw [hw2] at hmk
  rw [hg] at hmk hb2
  have HK2 := hide hk2
  have HB2 := hide hb2
  have HW2 := hide hw2
  clear hw2 hk2 hb2 hg
  go_wp2_with fail
  refine (base.round_ex a (m : Int) _ (by omega) (by omega)).mono ?_
  rintro e W3 ⟨j, hj, rfl, rfl⟩
  have hjm : j < m := by omega
  have b0 : W2.cell? ⟨g, j, none⟩ = (cellsOf (List.replicate m 0))[j]? := HB2.out.cell j
  rw [show (cellsOf (List.replicate m 0))[j]? = some (.int .i64 0) by simp [cellsOf, hjm, I]] at b0
  have bf := HB2.out.frozen j
  have HB3 : Hid (Blk (W2.setCell ⟨g, j, none⟩ (.int .i64 x)) g 3 (cellsOf ((List.replicate m 0).set j x))) := hide (by
    have := HB2.out.set_ j (.int .i64 x)
    rwa [cellsOf_set] at this)
  have HK3 := hide (HK2.out.set_ (b := g) (.inr HG.out) j (.int .i64 x))
  have HE := hide (may_no ((List.replicate m 0).set j x) x (List.mem_set (l := List.replicate m 0) (by rw [List.length_replicate]; exact hjm) x) HN.out)
  have HLN : Hid (((List.replicate m 0).set j x).length = m) := hide (by simp)
  clear hmk HB2 HK2
  go_wp2_with fail
  refine (encode_any (some ⟨g, 0, none⟩) m m ((List.replicate m 0).set j x) _ (cells_vals HB3.out (by simp)) HLN.out).mono ?_
  rintro e W4 ⟨A4, n4, c4, rfl, hn, _, hk4⟩
  rw [HE.out] at hn ⊢
  have hn4 : n4 = 0 := hn
  subst hn4
  have HK4 := hide (HK3.out.trans hk4 (by simp))
  clear hn hk4 b0 bf HK3 HB3
  have hmk : (Instr.makeSlice 22 (.int .i64 16) (.int .i64 16)).run Try.prog W4 = .ok (.slice (some ⟨W4.heap.size, 0, none⟩) 16 16) (W4.alloc (.cells (cellsOf (List.replicate 16 0)) 3)) := run_make_ints 16 (by omega) W4
  obtain ⟨W5, hw5⟩ : ∃ W5, W4.alloc (.cells (cellsOf (List.replicate 16 0)) 3) = W5 := ⟨_, rfl⟩
  have hk5 : Kept [] W4 W5 := by rw [← hw5]; exact (Kept.refl [] W4).alloc _
  have hb5 : Blk W5 W4.heap.size 3 (cellsOf (List.replicate 16 0)) := by rw [← hw5]; exact Blk.new W4 _ _
  obtain ⟨q, hq⟩ : ∃ q, W4.heap.size = q := ⟨_, rfl⟩
  rw [hw5] at hmk
  rw [hq] at hmk hb5
  have HK5 := hide (HK4.out.trans hk5 (by simp))
  have HB5 := hide hb5
  have HE16 : Hid (encode (List.replicate 16 0) = ([], 1)) := hide (if_neg (by decide))
  clear hw5 hk5 hb5 hq HK4
  go_wp2_with fail
  refine (encode_any (some ⟨q, 0, none⟩) 16 16 (List.replicate 16 0) _ (cells_vals HB5.out (by simp)) (by simp)).mono ?_
  rintro e W6 ⟨A6, n6, c6, rfl, hn, _, hk6⟩
  rw [HE16.out] at hn ⊢
  have hn6 : n6 = 0 := hn
  subst hn6
  have HK6 := hide (HK5.out.trans hk6 (by simp))
  clear hn hk6 hmk HK5 HB5
  go_wp2_with fail
  refine (awake_any _).mono ?_
  rintro e W7 ⟨rfl, hk⟩
  have HK7 := hide (HK6.out.trans hk (by simp))
  clear hk
  go_wp2
  go_ret
  exact ⟨rfl, HK7.out.below (by simp)⟩

set_option maxRecDepth 100000 in
set_option maxHeartbeats 1000000 in
theorem walk_high (n a x : Int) (w : World) (h : 4096 ≤ x) :
    Calls Try.prog 5 #[.int .i64 n, .int .i64 a, .int .i64 x] w fun e w' => e = .returned (.bool true) ∧ Below w.heap.size w w' := by
  have HN : Hid (¬ (-1 ≤ x ∧ x ≤ 4095)) := hide (by omega)
  have g1 : -1 ≤ x := by omega
  have g2 : ¬ x < 4096 := by omega
  clear h
  go_enter Try.func5, Try.ntmps5
  go_wp2_with fail
  refine (base.round_ex n 15 _ (by omega) (by omega)).mono ?_
  rintro e W1 ⟨k, hk, rfl, rfl⟩
  obtain ⟨m, hm⟩ : ∃ m : Nat, 1 + (k : Int) = m := ⟨1 + k, by omega⟩
  have hm1 : m ≤ 15 := by omega
  have hm0 : 0 < m := by omega
  have hmk := run_make_ints m (by omega) w
  obtain ⟨W2, hw2⟩ : ∃ W2, w.alloc (.cells (cellsOf (List.replicate m 0)) 3) = W2 := ⟨_, rfl⟩
  have hk2 : Kept [] w W2 := by rw [← hw2]; exact (Kept.refl [] w).alloc _
  have hb2 : Blk W2 w.heap.size 3 (cellsOf (List.replicate m 0)) := by rw [← hw2]; exact Blk.new w _ _
  obtain ⟨g, hg⟩ : ∃ g, w.heap.size = g := ⟨_, rfl⟩
  have HG : Hid (w.heap.size ≤ g) := hide (Nat.le_of_eq hg)
  rw [hw2] at hmk
  rw [hg] at hmk hb2
  have HK2 := hide hk2
  have HB2 := hide hb2
  have HW2 := hide hw2
  clear hw2 hk2 hb2 hg
  go_wp2_with fail
  refine (base.round_ex a (m : Int) _ (by omega) (by omega)).mono ?_
  rintro e W3 ⟨j, hj, rfl, rfl⟩
  have hjm : j < m := by omega
  have b0 : W2.cell? ⟨g, j, none⟩ = (cellsOf (List.replicate m 0))[j]? := HB2.out.cell j
  rw [show (cellsOf (List.replicate m 0))[j]? = some (.int .i64 0) by simp [cellsOf, hjm, I]] at b0
  have bf := HB2.out.frozen j
  have HB3 : Hid (Blk (W2.setCell ⟨g, j, none⟩ (.int .i64 x)) g 3 (cellsOf ((List.replicate m 0).set j x))) := hide (by
    have := HB2.out.set_ j (.int .i64 x)
    rwa [cellsOf_set] at this)
  have HK3 := hide (HK2.out.set_ (b := g) (.inr HG.out) j (.int .i64 x))
  have HE := hide (may_no ((List.replicate m 0).set j x) x (List.mem_set (l := List.replicate m 0) (by rw [List.length_replicate]; exact hjm) x) HN.out)
  have HLN : Hid (((List.replicate m 0).set j x).length = m) := hide (by simp)
  clear hmk HB2 HK2
  go_wp2_with fail
  refine (encode_any (some ⟨g, 0, none⟩) m m ((List.replicate m 0).set j x) _ (cells_vals HB3.out (by simp)) HLN.out).mono ?_
  rintro e W4 ⟨A4, n4, c4, rfl, hn, _, hk4⟩
  rw [HE.out] at hn ⊢
  have hn4 : n4 = 0 := hn
  subst hn4
  have HK4 := hide (HK3.out.trans hk4 (by simp))
  clear hn hk4 b0 bf HK3 HB3
  have hmk : (Instr.makeSlice 22 (.int .i64 16) (.int .i64 16)).run Try.prog W4 = .ok (.slice (some ⟨W4.heap.size, 0, none⟩) 16 16) (W4.alloc (.cells (cellsOf (List.replicate 16 0)) 3)) := run_make_ints 16 (by omega) W4
  obtain ⟨W5, hw5⟩ : ∃ W5, W4.alloc (.cells (cellsOf (List.replicate 16 0)) 3) = W5 := ⟨_, rfl⟩
  have hk5 : Kept [] W4 W5 := by rw [← hw5]; exact (Kept.refl [] W4).alloc _
  have hb5 : Blk W5 W4.heap.size 3 (cellsOf (List.replicate 16 0)) := by rw [← hw5]; exact Blk.new W4 _ _
  obtain ⟨q, hq⟩ : ∃ q, W4.heap.size = q := ⟨_, rfl⟩
  rw [hw5] at hmk
  rw [hq] at hmk hb5
  have HK5 := hide (HK4.out.trans hk5 (by simp))
  have HB5 := hide hb5
  have HE16 : Hid (encode (List.replicate 16 0) = ([], 1)) := hide (if_neg (by decide))
  clear hw5 hk5 hb5 hq HK4
  go_wp2_with fail
  refine (encode_any (some ⟨q, 0, none⟩) 16 16 (List.replicate 16 0) _ (cells_vals HB5.out (by simp)) (by simp)).mono ?_
  rintro e W6 ⟨A6, n6, c6, rfl, hn, _, hk6⟩
  rw [HE16.out] at hn ⊢
  have hn6 : n6 = 0 := hn
  subst hn6
  have HK6 := hide (HK5.out.trans hk6 (by simp))
  clear hn hk6 hmk HK5 HB5
  go_wp2_with fail
  refine (awake_any _).mono ?_
  rintro e W7 ⟨rfl, hk⟩
  have HK7 := hide (HK6.out.trans hk (by simp))
  clear hk
  go_wp2
  go_ret
  exact ⟨rfl, HK7.out.below (by simp)⟩

theorem walk (a0 : Int) (a1 : Int) (a2 : Int) (w : World) (w0 : (Lit.int .i64 a0).wf = true) (w1 : (Lit.int .i64 a1).wf = true) (w2 : (Lit.int .i64 a2).wf = true) :
    Calls Try.prog 5 #[.int .i64 a0, .int .i64 a1, .int .i64 a2] w fun e w' => e = .returned (.bool true) ∧ Below w.heap.size w w' := by
  by_cases h1 : a2 < -1
  · exact walk_low a0 a1 a2 w h1
  · by_cases h2 : 4096 ≤ a2
    · exact walk_high a0 a1 a2 w h2
    · exact walk_good a0 a1 a2 w (by omega)

/-! ### the row's step, as the guide's skeleton has it -/
set_option maxRecDepth 100000 in
theorem lifted (os : Os) (started : os.Started) (H : Type) (enc : TypeId × Value → H) :
    ReturnsInHanded {} Try.checked os 5 .any (Rows.pageBadSpec.pre6 enc Try.prog Try.f5 Rows.pageBadRow.domain false) (Rows.pageBadSpec.post enc Try.prog Try.f5 false true false false) := by
  refine returnsInHanded_of_change (C := Try.checked) own started (by kernel_rfl) Try.func5
    (ChangeSpec.witness6 (enc := enc) (C := Try.checked) false ⟨#[], #[.int .i64 0, .int .i64 0, .int .i64 0], []⟩ 8 (by kernel_rfl) (by kernel_rfl) (by kernel_rfl) (by kernel_rfl)) ?_
  intro W base args ds gs before hval0 hW hcnd _
  have hval : ∀ (j : Nat) t v, Try.f5.params[j]? = some t → args[j]? = some v → Value.okWide Try.prog W .any base t v := hval0
  have hW' := hW
  obtain ⟨p, q, hA0, hV, rfl, hfz, hnd⟩ := hW
  have hA : DataW.TrodAll enc Try.prog W 0 (fun _ => true) true Try.f5.params.toList args.toList ds p := hA0
  rw [Try.params5] at hA hval
  obtain ⟨v0, vs0, d0, ds0, p0, q0, hargs, rfl, rfl, h0, r0⟩ := trodAll_cons hA
  obtain ⟨v1, vs1, d1, ds1, p1, q1, rfl, rfl, rfl, h1, r1⟩ := trodAll_cons r0
  obtain ⟨v2, vs2, d2, ds2, p2, q2, rfl, rfl, rfl, h2, r2⟩ := trodAll_cons r1
  obtain ⟨rfl, rfl, rfl⟩ := trodAll_nil r2
  obtain rfl : args = #[v0, v1, v2] := by cases args; simp_all
  obtain ⟨rfl, rfl⟩ := trodVars_none hV
  obtain ⟨a0, rfl, rfl, rfl, w0⟩ := open_int Try.underlying3 (hval 0 3 v0 rfl rfl) h0
  obtain ⟨a1, rfl, rfl, rfl, w1⟩ := open_int Try.underlying3 (hval 1 3 v1 rfl rfl) h1
  obtain ⟨a2, rfl, rfl, rfl, w2⟩ := open_int Try.underlying3 (hval 2 3 v2 rfl rfl) h2
  clear hA0 hval0
  refine (walk a0 a1 a2 W w0 w1 w2).mono fun e W' ⟨he, bel⟩ => ?_
  subst he
  exact ⟨_, rfl, _, _, _, [], _, [], hW', trodAll_mk1 (shut_bool Try.underlying4 _), (trodAll_cons_mk (shut_int Try.underlying3 w0) (trodAll_cons_mk (shut_int Try.underlying3 w1) (trodAll_cons_mk (shut_int Try.underlying3 w2) trodAll_mk0))), rfl, bel.frame _, fun h => by cases h⟩

theorem over : Rows.pageBadRow.holds Try.pinned (OpenSpec.ofChange Rows.pageBadSpec) :=
  OpenClaim.holds_of_wide 5 Try.f5 rfl rfl rfl rfl rfl rfl rfl ⟨rfl, rfl, rfl, rfl, rfl⟩ rfl rfl rfl rfl rfl (by kernel_rfl) Try.func5 (by kernel_rfl)
    (of_decide_eq_true (by kernel_rfl)) (by unfold Func.isWrapper; first | (rw [if_pos (by decide +kernel)]; kernel_rfl) | (rw [if_neg (by decide +kernel)]; exact ⟨rfl, rfl⟩))
    (fun os started H enc _ => lifted os started H enc)

/-- The statement. -/
theorem proved : Rows.PageBadSaid := over
#print axioms proved
end Go.Proofs.Ythjhegjbpfbbdaa.pageBad

