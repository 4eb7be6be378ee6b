/-
  The given statement SuperSpoiltSaid is proved: whatever the arguments are, the law returns true and leaves its input as it was. No conditions.
-/
import Derived.Test.YtbglcnpkajkkpaaSuperMade
import Derived.Test.YtbglcnpkajkkpaaShapes
import Derived.Test.YtbglcnpkajkkpaaFar
import Derived.WalkKit
import Derived.ProofKit
import Derived.OpenShut
import Derived.ShutString
import Derived.ChangeOld
import Derived.Below
namespace Go.Proofs.Ytbglcnpkajkkpaa.superSpoilt
open Go.ChangeShapes Go.WideShapes Go.ChangeAt Go.RowKit
open Go.ChangeMaps (open_string shut_string)
open Go.Proofs.Ytbglcnpkajkkpaa.mem Go.Proofs.Ytbglcnpkajkkpaa.base Go.Proofs.Ytbglcnpkajkkpaa.super Go.Proofs.Ytbglcnpkajkkpaa.crc Go.Proofs.Ytbglcnpkajkkpaa.row
set_option linter.unusedVariables false

theorem own : ownKnob Try.prog.godebug = none := by kernel_rfl
theorem laidOut : laidOutB Try.prog = true := by kernel_rfl

theorem decode_turned2 (S : Su) (h : S.may = true) (o : List UInt8) (first p : Nat) (any : Bool) (ho : TurnedAt S.body o first p 32 any) (hf : first < 480) (u : Su) (e : Int) (hd : super.decode (o ++ sumOf S.body) = (u, e)) :
    (any = true ∧ e = 2) ∨ (any = false ∧ e = 0) := by
  have hi := decode_turned S h o first p any ho hf
  rw [hd] at hi
  cases any with
  | false => exact .inr ⟨rfl, hi.2 rfl⟩
  | true =>
    refine .inl ⟨rfl, ?_⟩
    rcases decode_or (o ++ sumOf S.body) with ⟨T, _, _, h3⟩ | h3
    · rw [h3, Prod.mk.injEq] at hd
      have := hi.1 hd.2.symm
      cases this
    · rw [h3, Prod.mk.injEq] at hd
      exact hd.2.symm
theorem decode_other (bs : List UInt8) (h : bs.length ≠ 64) : ∃ u : Su, super.decode bs = (u, 2) := ⟨Su.zero, decode_len bs h⟩

set_option maxRecDepth 100000 in
set_option maxHeartbeats 1000000 in
theorem walk (a0_0 a0_1 a0_2 : Int) (a1 : Int) (a2 : Int) (a3 : Int) (a4 : Int) (w : World) (w0_0 : (Lit.int .i64 a0_0).wf = true) (w0_1 : (Lit.int .i64 a0_1).wf = true) (w0_2 : (Lit.int .i64 a0_2).wf = true) (w1 : (Lit.int .i64 a1).wf = true) (w2 : (Lit.int .i64 a2).wf = true) (w3 : (Lit.int .i64 a3).wf = true) (w4 : (Lit.int .u32 a4).wf = true) :
    Calls Try.prog 5 #[.agg #[.int .i64 a0_0, .int .i64 a0_1, .int .i64 a0_2], .int .i64 a1, .int .i64 a2, .int .i64 a3, .int .u32 a4] w fun e w' => e = .returned (.bool true) ∧ Below w.heap.size w w' := by
  have hu4 := bounds_u32 w4
  clear w4
  obtain ⟨p, rfl⟩ : ∃ p : Nat, a4 = p := ⟨a4.toNat, by omega⟩
  have hp : p < 4294967296 := by omega
  clear hu4
  obtain ⟨W1, hw1⟩ : ∃ W1, w.alloc (.cells #[.int .i64 a0_0, .int .i64 a0_1, .int .i64 a0_2] 40) = W1 := ⟨_, rfl⟩
  have hk1 : Kept [] w W1 := by rw [← hw1]; exact (Kept.refl [] w).alloc _
  have hb1 : Blk W1 w.heap.size 40 #[.int .i64 a0_0, .int .i64 a0_1, .int .i64 a0_2] := by rw [← hw1]; exact Blk.new w _ _
  have c0 : W1.cell? ⟨w.heap.size, 0, none⟩ = some (.int .i64 a0_0) := hb1.cell 0
  have c1 : W1.cell? ⟨w.heap.size, 1, none⟩ = some (.int .i64 a0_1) := hb1.cell 1
  have c2 : W1.cell? ⟨w.heap.size, 2, none⟩ = some (.int .i64 a0_2) := hb1.cell 2
  have HK1 := hide hk1
  have HP := hide hp
  clear hk1 hb1 hp
  go_enter Try.func5, Try.ntmps5
  go_wp2_with fail
  refine (made_any a0_0 a0_1 a0_2 a1 a2 _).mono ?_
  rintro e W2 ⟨S, rfl, hS, hk⟩
  have HK2 := hide (HK1.out.trans hk (by simp))
  have HS := hide hS
  clear hk c0 c1 c2 hw1 HK1 hS
  go_wp2_with fail
  refine (encode_yes S _ HS.out).mono ?_
  rintro e W3 ⟨A, c, rfl, hn, hk⟩
  obtain ⟨b, rfl, _, harr⟩ := hn.pos (by rw [S.bytes_len]; omega)
  have HK3 := hide (HK2.out.trans hk (by simp))
  have hc : 64 ≤ c := by have := harr.len; rwa [S.bytes_len] at this
  have HA3 := hide harr
  clear hk hn harr HK2
  go_wp2_with fail
  refine (turned_below (some ⟨b, 0, none⟩) 64 60 c a3 p S.body (sumOf S.body) _ (HA3.out.vals (by simp)) S.bytes_len S.body_len hc (by omega) (by omega) (by omega) HP.out).mono ?_
  rintro e W4 ⟨gt, first, out, any, rfl, _, hfirst, hturn, hax, hk⟩
  have hf : first < 480 := by
    have := Int.emod_lt_of_pos a3 (show (0 : Int) < ((8 * 60 : Nat) : Int) by omega)
    have := Int.emod_nonneg a3 (show ((8 * 60 : Nat) : Int) ≠ 0 by omega)
    omega
  obtain ⟨u, eu, hu⟩ : ∃ u eu, super.decode (out ++ sumOf S.body) = (u, eu) := ⟨_, _, rfl⟩
  have HC := hide (decode_turned2 S HS.out out first p any hturn hf u eu hu)
  have hlen : (out ++ sumOf S.body).length = 64 := by rw [List.length_append, hturn.len, S.body_len, sumOf_len]
  have HL := hide hlen
  have HU := hide hu
  have HK4 := hide (HK3.out.trans hk (by simp))
  have HA4 := hide (HA3.out.kept hk (by simp))
  have HX4 := hide (hax.vals (S := []) (by simp))
  clear hfirst hturn hax hk hf hu hlen HK3 HA3
  go_wp2_with fail
  refine (decode_any (some ⟨gt, 0, none⟩) 64 64 (out ++ sumOf S.body) _ HX4.out HL.out (by simp) (by omega)).mono ?_
  rintro e W5 ⟨rfl, hk⟩
  rw [HU.out]
  unfold Su.val
  obtain ⟨W6, hw6⟩ : ∃ W6, W5.alloc (.cells u.cells 25) = W6 := ⟨_, rfl⟩
  have hk6 : Kept [] W5 W6 := by rw [← hw6]; exact (Kept.refl [] W5).alloc _
  unfold Su.cells at hw6
  have HK6 := hide ((HK4.out.trans hk (by simp)).trans hk6 (by simp))
  have HA6 := hide ((HA4.out.kept hk (by simp)).kept hk6 (by simp))
  clear hk hk6 HK4 HA4 HX4
  obtain ⟨u2, hu2⟩ := decode_other (S.bytes.take 63) (by rw [List.length_take, S.bytes_len]; omega)
  have HU2 := hide hu2
  clear hu2
  have hv6 : Vals W6 [] (some ⟨b, 0, none⟩) ((S.bytes.take 63).map B) := by
    rw [List.map_take]
    exact (HA6.out.vals (by simp)).first 63
  have HV6 := hide hv6
  clear hv6
  go_wp2_with fail
  refine (decode_any (some ⟨b, 0, none⟩) 63 c (S.bytes.take 63) _ HV6.out (by rw [List.length_take, S.bytes_len]; rfl) (by simp) (by omega)).mono ?_
  rintro e W7 ⟨rfl, hk⟩
  rw [HU2.out]
  clear hw6
  unfold Su.val
  obtain ⟨W8, hw8⟩ : ∃ W8, W7.alloc (.cells u2.cells 25) = W8 := ⟨_, rfl⟩
  have hk8 : Kept [] W7 W8 := by rw [← hw8]; exact (Kept.refl [] W7).alloc _
  unfold Su.cells at hw8
  have HK8 := hide ((HK6.out.trans hk (by simp)).trans hk8 (by simp))
  have HA8 := hide ((HA6.out.kept hk (by simp)).kept hk8 (by simp))
  clear hk hk8 HK6 HA6 HV6
  have HV8 := hide ((HA8.out.vals (S := []) (by simp)).kept (S' := []) ((Kept.refl _ W8).alloc (.cells #[] 5)) (by simp))
  have HLB : Hid ((S.bytes.map B).length = 64) := hide (by rw [List.length_map, S.bytes_len])
  go_wp2_with (first | (at_builtin; refine wpList_append_vals rfl (.tmp 55) (.tmp 56) 26 rfl W8.heap.size 5 (.int .u8 0) 1 1 Try.underlying26 info8 rfl (by omega) (.slice (some ⟨W8.heap.size, 0, none⟩) 0 0) 0 [] rfl (own_lit W8) [] (some ⟨b, 0, none⟩) 64 c (S.bytes.map B) rfl (by rw [HLB.out]) HV8.out (oneCell_B S.bytes) (by simp only [maxLen]; omega) (by omega) (by simp) ?_; intro v9 W9 hown9 hk9 hat9; have HO9 : Hid (W9.ownsRow W8.heap.size 5 1 v9 64 (S.bytes.map B)) := hide (by simpa only [List.nil_append, Nat.zero_add] using hown9); have HK9 : Hid (Kept [] w W9) := hide (HK8.out.lit _ hk9 (by simp [Value.ownBlock]; exact HK8.out.size)); have HS9 : Hid (W8.heap.size ≤ W9.heap.size) := hide (by have := hk9.size; simp at this; omega); clear hown9 hk9 hat9) | (at_builtin; refine wpList_append_vals rfl (.tmp 57) (.tmp 58) 26 rfl W8.heap.size 5 (.int .u8 0) 1 1 Try.underlying26 info8 rfl (by omega) v9 64 (S.bytes.map B) rfl (HO9.out.alloc _) [] (some ⟨W9.heap.size, 0, none⟩) 1 1 ([0].map B) rfl (by simp) (Vals.lit W9 [] _ _ _ ([0].map B) rfl (by simp)) (oneCell_B [0]) (by simp only [maxLen]; omega) (by omega) (by have := HS9.out; simp; omega) ?_; intro v10 W10 hown10 hk10 hat10))
  have hown11 : W10.ownsRow W8.heap.size 5 1 v10 65 ((S.bytes ++ [0]).map B) := by rw [List.map_append]; exact hown10
  have hk11 : Kept [] w W10 := kept_own HO9.out (Nat.le_trans HK8.out.size (Nat.le_refl _)) HK9.out (.cells #[.int .u8 0] 5) hk10
  obtain ⟨A10, c10, rfl, _, hA10, hv10, _⟩ := own_slice hown11
  obtain ⟨u3, hu3⟩ := decode_other (S.bytes ++ [0]) (by rw [List.length_append, S.bytes_len]; decide)
  have HU3 := hide hu3
  have HK11 := hide hk11
  have HA10 := hide hA10
  have HV10 := hide (hv10 [] (by simp))
  clear hu3 hk11 hA10 hv10 hown11 hown10 hk10 hat10 HO9 HK9 HS9 hw8
  refine (decode_any A10 65 c10 (S.bytes ++ [0]) _ HV10.out (by rw [List.length_append, S.bytes_len]; rfl) HA10.out (by omega)).mono ?_
  rintro e W11 ⟨rfl, hk⟩
  rw [HU3.out]
  unfold Su.val
  have HK12 := hide ((HK11.out.trans hk (by simp)).alloc (.cells u3.cells 25))
  clear hk
  rcases HC.out with ⟨rfl, rfl⟩ | ⟨rfl, rfl⟩
  · go_wp2_with fail
    refine (awake_any _).mono ?_
    rintro e W13 ⟨rfl, hk⟩
    have HK13 := hide (HK12.out.trans hk (by simp))
    go_wp2
    go_ret
    exact ⟨rfl, HK13.out.below (by simp)⟩
  · go_wp2_with fail
    refine (awake_any _).mono ?_
    rintro e W13 ⟨rfl, hk⟩
    have HK13 := hide (HK12.out.trans hk (by simp))
    go_wp2
    go_ret
    exact ⟨rfl, HK13.out.below (by simp)⟩

/-! ### the row's step, as the guide's skeleton has it -/
set_option maxRecDepth 100000 in
theorem lifted (os : Os) (started : os.Started) (H : Type) (enc : TypeId × Value → H) :
    ReturnsInHanded {} Try.checked os 5 .any (Rows.superSpoiltSpec.pre6 enc Try.prog Try.f5 Rows.superSpoiltRow.domain false) (Rows.superSpoiltSpec.post enc Try.prog Try.f5 false true false false) := by
  refine returnsInHanded_of_change (C := Try.checked) own started (by kernel_rfl) Try.func5
    (ChangeSpec.witness6 (enc := enc) (C := Try.checked) false ⟨#[], #[.agg #[.int .i64 0, .int .i64 0, .int .i64 0], .int .i64 0, .int .i64 0, .int .i64 0, .int .u32 0], []⟩ 8 (by kernel_rfl) (by kernel_rfl) (by kernel_rfl) (by kernel_rfl)) ?_
  intro W base args ds gs before hval0 hW hcnd _
  have hval : ∀ (j : Nat) t v, Try.f5.params[j]? = some t → args[j]? = some v → Value.okWide Try.prog W .any base t v := hval0
  have hW' := hW
  obtain ⟨p, q, hA0, hV, rfl, hfz, hnd⟩ := hW
  have hA : DataW.TrodAll enc Try.prog W 0 (fun _ => true) true Try.f5.params.toList args.toList ds p := hA0
  rw [Try.params5] at hA hval
  obtain ⟨v0, vs0, d0, ds0, p0, q0, hargs, rfl, rfl, h0, r0⟩ := trodAll_cons hA
  obtain ⟨v1, vs1, d1, ds1, p1, q1, rfl, rfl, rfl, h1, r1⟩ := trodAll_cons r0
  obtain ⟨v2, vs2, d2, ds2, p2, q2, rfl, rfl, rfl, h2, r2⟩ := trodAll_cons r1
  obtain ⟨v3, vs3, d3, ds3, p3, q3, rfl, rfl, rfl, h3, r3⟩ := trodAll_cons r2
  obtain ⟨v4, vs4, d4, ds4, p4, q4, rfl, rfl, rfl, h4, r4⟩ := trodAll_cons r3
  obtain ⟨rfl, rfl, rfl⟩ := trodAll_nil r4
  obtain rfl : args = #[v0, v1, v2, v3, v4] := by cases args; simp_all
  obtain ⟨rfl, rfl⟩ := trodVars_none hV
  have k0 := h0
  have lt0 : ∀ x ∈ p0, x.block < W.heap.size := by obtain ⟨m, hm⟩ := k0; exact DataW.trod_lt m _ _ _ hm
  obtain ⟨xs0, rfl, hl0, hx0⟩ := agg_ints (ts := List.replicate 3 3) (n := 3) (by kernel_rfl) (by kernel_rfl) (fun u hu => by rw [List.eq_of_mem_replicate hu]; exact Try.underlying3) (by kernel_rfl) (hval 0 40 v0 rfl rfl)
  obtain ⟨a0_0, a0_1, a0_2, rfl⟩ := list3 hl0
  have w0_0 := hx0 a0_0 (by simp)
  have w0_1 := hx0 a0_1 (by simp)
  have w0_2 := hx0 a0_2 (by simp)
  obtain ⟨a1, rfl, rfl, rfl, w1⟩ := open_int Try.underlying3 (hval 1 3 v1 rfl rfl) h1
  obtain ⟨a2, rfl, rfl, rfl, w2⟩ := open_int Try.underlying3 (hval 2 3 v2 rfl rfl) h2
  obtain ⟨a3, rfl, rfl, rfl, w3⟩ := open_int Try.underlying3 (hval 3 3 v3 rfl rfl) h3
  obtain ⟨a4, rfl, rfl, rfl, w4⟩ := open_int Try.underlying43 (hval 4 43 v4 rfl rfl) h4
  clear hA0 hval0
  refine (walk a0_0 a0_1 a0_2 a1 a2 a3 a4 W w0_0 w0_1 w0_2 w1 w2 w3 w4).mono fun e W' ⟨he, bel⟩ => ?_
  subst he
  exact ⟨_, rfl, _, _, _, [], _, [], hW', trodAll_mk1 (shut_bool Try.underlying4 _), (trodAll_cons_mk (Below.trod laidOut (by kernel_rfl) (of_decide_eq_true (by kernel_rfl)) k0 bel lt0) (trodAll_cons_mk (shut_int Try.underlying3 w1) (trodAll_cons_mk (shut_int Try.underlying3 w2) (trodAll_cons_mk (shut_int Try.underlying3 w3) (trodAll_cons_mk (shut_int Try.underlying43 w4) trodAll_mk0))))), rfl, bel.frame _, fun h => by cases h⟩

theorem over : Rows.superSpoiltRow.holds Try.pinned (OpenSpec.ofChange Rows.superSpoiltSpec) :=
  OpenClaim.holds_of_wide 5 Try.f5 rfl rfl rfl rfl rfl rfl rfl ⟨rfl, rfl, rfl, rfl, rfl⟩ rfl rfl rfl rfl rfl (by kernel_rfl) Try.func5 (by kernel_rfl)
    (of_decide_eq_true (by kernel_rfl)) (by unfold Func.isWrapper; first | (rw [if_pos (by decide +kernel)]; kernel_rfl) | (rw [if_neg (by decide +kernel)]; exact ⟨rfl, rfl⟩))
    (fun os started H enc _ => lifted os started H enc)

/-- The statement. -/
theorem proved : Rows.SuperSpoiltSaid := over
#print axioms proved
end Go.Proofs.Ytbglcnpkajkkpaa.superSpoilt

