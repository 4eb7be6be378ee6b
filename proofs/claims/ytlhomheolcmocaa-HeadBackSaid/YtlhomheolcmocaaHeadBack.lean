/-
  The given statement HeadBackSaid is proved: whatever the arguments are, the law returns true and leaves its input as it was. No conditions.
-/
import Derived.Test.YtlhomheolcmocaaHeadMade
import Derived.Test.YtlhomheolcmocaaShapes
import Derived.WalkKit
import Derived.ProofKit
import Derived.OpenShut
import Derived.ShutString
import Derived.ChangeOld
import Derived.Below
namespace Go.Proofs.Ytlhomheolcmocaa.headBack
open Go.ChangeShapes Go.WideShapes Go.ChangeAt Go.RowKit
open Go.ChangeMaps (open_string shut_string)
open Go.Proofs.Ytlhomheolcmocaa.mem Go.Proofs.Ytlhomheolcmocaa.base Go.Proofs.Ytlhomheolcmocaa.hd Go.Proofs.Ytlhomheolcmocaa.crc Go.Proofs.Ytlhomheolcmocaa.row
set_option linter.unusedVariables false

theorem own : ownKnob Try.prog.godebug = none := by kernel_rfl
theorem laidOut : laidOutB Try.prog = true := by kernel_rfl

set_option maxRecDepth 100000 in
set_option maxHeartbeats 1000000 in
theorem walk (a0_0 a0_1 a0_2 a0_3 : Int) (a1 : Int) (a2 : Int) (w : World) (w0_0 : (Lit.int .i64 a0_0).wf = true) (w0_1 : (Lit.int .i64 a0_1).wf = true) (w0_2 : (Lit.int .i64 a0_2).wf = true) (w0_3 : (Lit.int .i64 a0_3).wf = true) (w1 : (Lit.int .i64 a1).wf = true) (w2 : (Lit.int .u32 a2).wf = true) :
    Calls Try.prog 4 #[.agg #[.int .i64 a0_0, .int .i64 a0_1, .int .i64 a0_2, .int .i64 a0_3], .int .i64 a1, .int .u32 a2] w fun e w' => e = .returned (.bool true) ∧ Below w.heap.size w w' := by
  have hu2 := bounds_u32 w2
  clear w2
  obtain ⟨p, rfl⟩ : ∃ p : Nat, a2 = p := ⟨a2.toNat, by omega⟩
  have hp : p < 4294967296 := by omega
  clear hu2
  obtain ⟨W1, hw1⟩ : ∃ W1, w.alloc (.cells #[.int .i64 a0_0, .int .i64 a0_1, .int .i64 a0_2, .int .i64 a0_3] 41) = W1 := ⟨_, rfl⟩
  have hk1 : Kept [] w W1 := by rw [← hw1]; exact (Kept.refl [] w).alloc _
  have hb1 : Blk W1 w.heap.size 41 #[.int .i64 a0_0, .int .i64 a0_1, .int .i64 a0_2, .int .i64 a0_3] := by rw [← hw1]; exact Blk.new w _ _
  have c0 : W1.cell? ⟨w.heap.size, 0, none⟩ = some (.int .i64 a0_0) := hb1.cell 0
  have c1 : W1.cell? ⟨w.heap.size, 1, none⟩ = some (.int .i64 a0_1) := hb1.cell 1
  have c2 : W1.cell? ⟨w.heap.size, 2, none⟩ = some (.int .i64 a0_2) := hb1.cell 2
  have c3 : W1.cell? ⟨w.heap.size, 3, none⟩ = some (.int .i64 a0_3) := hb1.cell 3
  have HK1 := hide hk1
  have HP := hide hp
  clear hk1 hb1 hp
  go_enter Try.func4, Try.ntmps4
  go_wp2_with fail
  refine (made_any a0_0 a0_1 a0_2 a0_3 _).mono ?_
  rintro e W2 ⟨H, rfl, hH, hk⟩
  have HK2 := hide (HK1.out.trans hk (by simp))
  have HH := hide hH
  clear hk c0 c1 c2 c3 hw1 HK1 hH
  unfold Hd.val
  obtain ⟨W3, hw3⟩ : ∃ W3, W2.alloc (.cells H.cells 23) = W3 := ⟨_, rfl⟩
  have hk3 : Kept [] W2 W3 := by rw [← hw3]; exact (Kept.refl [] W2).alloc _
  have hb3 : Blk W3 W2.heap.size 23 H.cells := by rw [← hw3]; exact Blk.new W2 _ _
  obtain ⟨g, hg⟩ : ∃ g, W2.heap.size = g := ⟨_, rfl⟩
  rw [hg] at hb3
  obtain ⟨d0, d1, d2, d3⟩ := Hd.cell_at hb3
  have HK3 := hide (HK2.out.trans hk3 (by simp))
  have HB3 := hide hb3
  clear hk3 hb3
  unfold Hd.cells at hw3
  go_wp2_with fail
  refine (encode_yes H _ HH.out).mono ?_
  rintro e W4 ⟨A, c, rfl, hn, hk⟩
  obtain ⟨b, rfl, _, harr⟩ := hn.pos (by rw [H.bytes_len]; omega)
  have hc : 64 ≤ c := by have := harr.len; rwa [H.bytes_len] at this
  have HK4 := hide (HK3.out.trans hk (by simp))
  have HB4 := hide (hk.blk HB3.out (by simp))
  have HA4 := hide harr
  clear hk hn harr d0 d1 d2 d3 hw3 hg HK3 HB3
  go_wp2_with fail
  refine (decode_any (some ⟨b, 0, none⟩) 64 c H.bytes _ (HA4.out.vals (by simp)) H.bytes_len (by simp) (by omega)).mono ?_
  rintro e W5 ⟨rfl, hk⟩
  rw [decode_bytes H HH.out]
  unfold Hd.val
  obtain ⟨W6, hw6⟩ : ∃ W6, W5.alloc (.cells H.cells 23) = W6 := ⟨_, rfl⟩
  have hk6 : Kept [] W5 W6 := by rw [← hw6]; exact (Kept.refl [] W5).alloc _
  have hb6 : Blk W6 W5.heap.size 23 H.cells := by rw [← hw6]; exact Blk.new W5 _ _
  obtain ⟨x, hx⟩ : ∃ x, W5.heap.size = x := ⟨_, rfl⟩
  rw [hx] at hb6
  unfold Hd.cells at hw6
  have hk46 := hk.trans hk6 (by simp)
  have HK6 := hide (HK4.out.trans hk46 (by simp))
  have HB6 := hide (hk46.blk HB4.out (by simp))
  have HA6 := hide (HA4.out.kept hk46 (by simp))
  have HX6 := hide hb6
  clear hk hk6 hb6 hk46 HK4 HB4 HA4
  go_wp2_with fail
  refine (turned_below (some ⟨b, 0, none⟩) 64 60 c a1 p H.body (super.sumOf H.body) _ (HA6.out.vals (by simp)) H.bytes_len H.body_len hc (by omega) (by omega) (by omega) HP.out).mono ?_
  rintro e W7 ⟨gt, first, out, any, rfl, _, hfirst, hturn, hax, hk⟩
  have hf : first < 480 := by
    have := Int.emod_lt_of_pos a1 (show (0 : Int) < ((8 * 60 : Nat) : Int) by omega)
    have := Int.emod_nonneg a1 (show ((8 * 60 : Nat) : Int) ≠ 0 by omega)
    omega
  obtain ⟨u, eu, hu⟩ : ∃ u eu, hd.decode (out ++ super.sumOf H.body) = (u, eu) := ⟨_, _, rfl⟩
  have HC := hide (decode_turned H HH.out out first p any hturn hf u eu hu)
  have HL : Hid ((out ++ super.sumOf H.body).length = 64) := hide (by rw [List.length_append, hturn.len, H.body_len, super.sumOf_len])
  have HU := hide hu
  have HK7 := hide (HK6.out.trans hk (by simp))
  have HB7 := hide (hk.blk HB6.out (by simp))
  have HX7 := hide (hk.blk HX6.out (by simp))
  have HV7 := hide (hax.vals (S := []) (by simp))
  clear hfirst hturn hax hk hf hu HK6 HB6 HX6 HA6 hw6 hx
  go_wp2_with fail
  refine (decode_any (some ⟨gt, 0, none⟩) 64 64 (out ++ super.sumOf H.body) _ HV7.out HL.out (by simp) (by omega)).mono ?_
  rintro e W8 ⟨rfl, hk⟩
  rw [HU.out]
  unfold Hd.val
  obtain ⟨W9, hw9⟩ : ∃ W9, W8.alloc (.cells u.cells 23) = W9 := ⟨_, rfl⟩
  have hk9 : Kept [] W8 W9 := by rw [← hw9]; exact (Kept.refl [] W8).alloc _
  unfold Hd.cells at hw9
  have hk79 := hk.trans hk9 (by simp)
  have HK9 := hide (HK7.out.trans hk79 (by simp))
  have HB9 := hide (hk79.blk HB7.out (by simp))
  have HX9 := hide (hk79.blk HX7.out (by simp))
  clear hk hk9 hk79 HK7 HB7 HX7 HV7
  obtain ⟨d0, d1, d2, d3⟩ := Hd.cell_at HB9.out
  rcases HC.out with ⟨rfl, rfl⟩ | ⟨rfl, rfl⟩
  · go_wp2_with fail
    refine (may_any H _).mono ?_
    rintro e W10 ⟨rfl, hk⟩
    rw [HH.out]
    have HK10 := hide (HK9.out.trans hk (by simp))
    clear hw9 d0 d1 d2 d3
    obtain ⟨d0, d1, d2, d3⟩ := Hd.cell_at (hk.blk HB9.out (by simp))
    obtain ⟨x0, x1, x2, x3⟩ := Hd.cell_at (hk.blk HX9.out (by simp))
    clear hk
    go_wp2_with fail
    refine (awake_any _).mono ?_
    rintro e W11 ⟨rfl, hk⟩
    have HK11 := hide (HK10.out.trans hk (by simp))
    clear hk
    go_wp2
    go_ret
    exact ⟨rfl, HK11.out.below (by simp)⟩
  · go_wp2_with fail
    refine (may_any H _).mono ?_
    rintro e W10 ⟨rfl, hk⟩
    rw [HH.out]
    have HK10 := hide (HK9.out.trans hk (by simp))
    clear hw9 d0 d1 d2 d3
    obtain ⟨d0, d1, d2, d3⟩ := Hd.cell_at (hk.blk HB9.out (by simp))
    obtain ⟨x0, x1, x2, x3⟩ := Hd.cell_at (hk.blk HX9.out (by simp))
    clear hk
    go_wp2_with fail
    refine (awake_any _).mono ?_
    rintro e W11 ⟨rfl, hk⟩
    have HK11 := hide (HK10.out.trans hk (by simp))
    clear hk
    go_wp2
    go_ret
    exact ⟨rfl, HK11.out.below (by simp)⟩

/-! ### the row's step, as the guide's skeleton has it -/
set_option maxRecDepth 100000 in
theorem lifted (os : Os) (started : os.Started) (H : Type) (enc : TypeId × Value → H) :
    ReturnsInHanded {} Try.checked os 4 .any (Rows.headBackSpec.pre6 enc Try.prog Try.f4 Rows.headBackRow.domain false) (Rows.headBackSpec.post enc Try.prog Try.f4 false true false false) := by
  refine returnsInHanded_of_change (C := Try.checked) own started (by kernel_rfl) Try.func4
    (ChangeSpec.witness6 (enc := enc) (C := Try.checked) false ⟨#[], #[.agg #[.int .i64 0, .int .i64 0, .int .i64 0, .int .i64 0], .int .i64 0, .int .u32 0], []⟩ 8 (by kernel_rfl) (by kernel_rfl) (by kernel_rfl) (by kernel_rfl)) ?_
  intro W base args ds gs before hval0 hW hcnd _
  have hval : ∀ (j : Nat) t v, Try.f4.params[j]? = some t → args[j]? = some v → Value.okWide Try.prog W .any base t v := hval0
  have hW' := hW
  obtain ⟨p, q, hA0, hV, rfl, hfz, hnd⟩ := hW
  have hA : DataW.TrodAll enc Try.prog W 0 (fun _ => true) true Try.f4.params.toList args.toList ds p := hA0
  rw [Try.params4] at hA hval
  obtain ⟨v0, vs0, d0, ds0, p0, q0, hargs, rfl, rfl, h0, r0⟩ := trodAll_cons hA
  obtain ⟨v1, vs1, d1, ds1, p1, q1, rfl, rfl, rfl, h1, r1⟩ := trodAll_cons r0
  obtain ⟨v2, vs2, d2, ds2, p2, q2, rfl, rfl, rfl, h2, r2⟩ := trodAll_cons r1
  obtain ⟨rfl, rfl, rfl⟩ := trodAll_nil r2
  obtain rfl : args = #[v0, v1, v2] := by cases args; simp_all
  obtain ⟨rfl, rfl⟩ := trodVars_none hV
  have k0 := h0
  have lt0 : ∀ x ∈ p0, x.block < W.heap.size := by obtain ⟨m, hm⟩ := k0; exact DataW.trod_lt m _ _ _ hm
  obtain ⟨xs0, rfl, hl0, hx0⟩ := agg_ints (ts := List.replicate 4 3) (n := 4) (by kernel_rfl) (by kernel_rfl) (fun u hu => by rw [List.eq_of_mem_replicate hu]; exact Try.underlying3) (by kernel_rfl) (hval 0 41 v0 rfl rfl)
  obtain ⟨a0_0, a0_1, a0_2, a0_3, rfl⟩ := list4 hl0
  have w0_0 := hx0 a0_0 (by simp)
  have w0_1 := hx0 a0_1 (by simp)
  have w0_2 := hx0 a0_2 (by simp)
  have w0_3 := hx0 a0_3 (by simp)
  obtain ⟨a1, rfl, rfl, rfl, w1⟩ := open_int Try.underlying3 (hval 1 3 v1 rfl rfl) h1
  obtain ⟨a2, rfl, rfl, rfl, w2⟩ := open_int Try.underlying42 (hval 2 42 v2 rfl rfl) h2
  clear hA0 hval0
  refine (walk a0_0 a0_1 a0_2 a0_3 a1 a2 W w0_0 w0_1 w0_2 w0_3 w1 w2).mono fun e W' ⟨he, bel⟩ => ?_
  subst he
  exact ⟨_, rfl, _, _, _, [], _, [], hW', trodAll_mk1 (shut_bool Try.underlying4 _), (trodAll_cons_mk (Below.trod laidOut (by kernel_rfl) (of_decide_eq_true (by kernel_rfl)) k0 bel lt0) (trodAll_cons_mk (shut_int Try.underlying3 w1) (trodAll_cons_mk (shut_int Try.underlying42 w2) trodAll_mk0))), rfl, bel.frame _, fun h => by cases h⟩

theorem over : Rows.headBackRow.holds Try.pinned (OpenSpec.ofChange Rows.headBackSpec) :=
  OpenClaim.holds_of_wide 4 Try.f4 rfl rfl rfl rfl rfl rfl rfl ⟨rfl, rfl, rfl, rfl, rfl⟩ rfl rfl rfl rfl rfl (by kernel_rfl) Try.func4 (by kernel_rfl)
    (of_decide_eq_true (by kernel_rfl)) (by unfold Func.isWrapper; first | (rw [if_pos (by decide +kernel)]; kernel_rfl) | (rw [if_neg (by decide +kernel)]; exact ⟨rfl, rfl⟩))
    (fun os started H enc _ => lifted os started H enc)

/-- The statement. -/
theorem proved : Rows.HeadBackSaid := over
#print axioms proved
end Go.Proofs.Ytlhomheolcmocaa.headBack

