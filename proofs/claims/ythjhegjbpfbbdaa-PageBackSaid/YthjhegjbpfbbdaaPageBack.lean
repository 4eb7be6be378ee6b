/-
  The given statement PageBackSaid is proved: whatever the arguments are, the law returns true and leaves its input as it was. No conditions.
-/
import Derived.Test.YthjhegjbpfbbdaaPageAwake
import Derived.Test.YthjhegjbpfbbdaaOwns
import Derived.Test.YthjhegjbpfbbdaaOpen
import Derived.Test.YthjhegjbpfbbdaaShapes
import Derived.WalkKit
import Derived.ProofKit
import Derived.OpenShut
import Derived.ShutString
import Derived.ChangeOld
import Derived.Below
namespace Go.Proofs.Ythjhegjbpfbbdaa.pageBack
open Go.ChangeShapes Go.WideShapes Go.ChangeAt Go.RowKit
open Go.ChangeMaps (open_string shut_string)
open Go.Proofs.Ythjhegjbpfbbdaa.mem Go.Proofs.Ythjhegjbpfbbdaa.base Go.Proofs.Ythjhegjbpfbbdaa.pg
set_option linter.unusedVariables false

theorem own : ownKnob Try.prog.godebug = none := by kernel_rfl
theorem laidOut : laidOutB Try.prog = true := by kernel_rfl

theorem full_at (l : List Int) (j : Nat) (x : Int) (h : l[j]? = some x) : (full l)[j]? = some x := by
  unfold full
  rw [List.getElem?_append_left (List.getElem?_eq_some_iff.1 h).1]
  exact h
theorem full_more (l : List Int) (j : Nat) (h : l.length ≤ j) (h2 : j < 15) : (full l)[j]? = some 0 := by
  unfold full
  rw [List.getElem?_append_right h, List.getElem?_replicate, if_pos (by omega)]

set_option maxRecDepth 100000 in
theorem walk_long (A : Option Addr) (n c : Nat) (a p : Int) (w : World) (h : 15 < n) :
    Calls Try.prog 4 #[.slice A n c, .int .i64 a, .int .u32 p] w fun e w' => e = .returned (.bool true) ∧ Below w.heap.size w w' := by
  have g1 : (15 : Int) < n := by omega
  go_enter Try.func4, Try.ntmps4
  go_wp2_with fail
  refine (awake_any _).mono ?_
  rintro e W2 ⟨rfl, hk⟩
  have HK2 := hide hk
  clear hk
  go_wp2
  go_ret
  exact ⟨rfl, HK2.out.below (by simp)⟩

set_option maxRecDepth 100000 in
set_option maxHeartbeats 1000000 in
theorem walk_in (A : Option Addr) (n c : Nat) (ns : List Int) (a : Int) (p : Nat) (w : World) (h : n ≤ 15) (hv : Vals w [] A (ns.map I)) (hl : ns.length = n) (hp : p < 4294967296) :
    Calls Try.prog 4 #[.slice A n c, .int .i64 a, .int .u32 p] w fun e w' => e = .returned (.bool true) ∧ Below w.heap.size w w' := by
  have g1 : ¬ (15 : Int) < n := by omega
  have HV := hide hv
  have HL := hide hl
  have HP := hide hp
  clear hv hl hp
  go_enter Try.func4, Try.ntmps4
  go_wp2
  go_loopw [7, 8] (fun v i wr => ∃ l : List Int, l.length ≤ n ∧ i = .int .i64 l.length ∧ Hid (∀ x ∈ l, -1 ≤ x ∧ x ≤ 4095) ∧ Hid (wr.ownsRow w.heap.size 3 1 v l.length (l.map I)) ∧ Hid (Kept [] w wr)) (fun v i wr => n - (intOf i).toNat)
  case atStart => exact ⟨[], by simp, rfl, hide (by simp), hide (World.ownsRow_nil _ _ _ _), hide (Kept.refl _ _)⟩
  case round =>
    obtain ⟨l, hln, rfl, HG, HO, HK⟩ := hrel
    obtain ⟨j, hj⟩ : ∃ j, l.length = j := ⟨_, rfl⟩
    have HLJ := hide hj
    rw [hj] at hln HO ⊢
    clear hj
    by_cases hlt : j < n
    · obtain ⟨z, hz⟩ : ∃ z, ns[j]? = some z := ⟨_, List.getElem?_eq_getElem (by rw [HL.out]; exact hlt)⟩
      obtain ⟨ad, rfl, _, a0⟩ := (HV.out.kept HK.out (by simp)) j (I z) (by rw [List.getElem?_map, hz]; rfl)
      unfold I at a0
      clear hz
      go_wp2_with fail
      refine (base.round_ex z 4097 _ (by omega) (by omega)).mono ?_
      rintro e W1 ⟨k, hk, rfl, rfl⟩
      obtain ⟨x, hx⟩ : ∃ x, (k : Int) - 1 = x := ⟨_, rfl⟩
      have hx1 : -1 ≤ x ∧ x ≤ 4095 := by omega
      have HX := hide hx1
      go_wp2_with (at_builtin; refine wpList_append_vals rfl (.tmp 29) (.tmp 36) 22 rfl w.heap.size 3 (.int .i64 0) 1 8 Try.underlying22 base.int_info rfl (by omega) u7 j (l.map I) rfl (owns.own_keep HO.out ((Kept.refl [] wr).alloc _) (by simp)) [] _ 1 1 ([x].map I) rfl (by simp) (base.vals_one wr [] _ _ (by simp)) (oneCell_I [x]) (by simp only [maxLen]; omega) (by omega) (by have := HK.out.size; simp; omega) ?_; intro v1 w1 hown1 hk1 hat1)
      have HK4 := hide (base.kept_mid HO.out (Nat.le_refl _) (HK.out.alloc (.cells #[.int .i64 x] 3)) hk1)
      have HO4 : Hid (w1.ownsRow w.heap.size 3 1 v1 (l ++ [x]).length ((l ++ [x]).map I)) := hide (by
        rw [List.length_append, HLJ.out, List.map_append]
        exact hown1)
      have HG4 : Hid (∀ y ∈ l ++ [x], -1 ≤ y ∧ y ≤ 4095) := hide (fun y hy => by
        rcases List.mem_append.1 hy with hy | hy
        · exact HG.out y hy
        · simp only [List.mem_cons, List.not_mem_nil, or_false] at hy
          rw [hy]
          exact HX.out)
      have HLN : Hid ((l ++ [x]).length = j + 1) := hide (by rw [List.length_append, HLJ.out]; rfl)
      clear hown1 hk1 hat1 HO HK hx hx1 a0
      go_wp2
      go_roundw
      case rel => exact ⟨l ++ [x], by rw [HLN.out]; omega, by rw [HLN.out]; go_num, HG4, HO4, HK4⟩
      case measure => simp [intOf]; omega
    · obtain rfl : j = n := by omega
      have hm : may l = true := (may_iff l).2 ⟨by rw [HLJ.out]; exact h, HG.out⟩
      have HM := hide hm
      have hl15 : l.length ≤ 15 := by rw [HLJ.out]; exact h
      have HFL := hide (full_len l hl15)
      have HBL := hide (body_len l hl15)
      have HYL := hide (bytes_len l hl15)
      have HE : Hid (encode l = (pg.bytes l, 0)) := hide (if_pos hm)
      have HD := hide (decode_bytes l hm)
      obtain ⟨A1, c1, hv1, _, hV1⟩ := owns.own_read HO.out
      have HV1 := hide (hV1 [] (by simp))
      rw [hv1]
      clear hv1 hV1 hm hl15 HO HG HV hlt hln
      go_wp2_with fail
      refine (encode_any A1 j c1 l _ HV1.out HLJ.out).mono ?_
      rintro e W2 ⟨A2, n2, c2, rfl, hn2, hn, hk⟩
      rw [HE.out] at hn2 hn ⊢
      have hn64 : n2 = 64 := hn2.trans HYL.out
      subst hn64
      obtain ⟨b, rfl, _, harr⟩ := hn.pos (by rw [HYL.out]; omega)
      have hc : 64 ≤ c2 := by have := harr.len; rwa [HYL.out] at this
      have HK2 := hide (HK.out.trans hk (by simp))
      have HA2 := hide harr
      have HV2 := hide (HV1.out.kept hk (by simp))
      clear hk hn harr hn2 HK HV1
      go_wp2_with fail
      refine (decode_any (some ⟨b, 0, none⟩) 64 c2 (pg.bytes l) _ (HA2.out.vals (by simp)) HYL.out (by simp) (by omega)).mono ?_
      rintro e W3 ⟨A3, n3, c3, rfl, hn3, hv3, hk⟩
      have hv30 := hv3 [] (by simp)
      rw [HD.out] at hn3 hv30 ⊢
      rw [HFL.out] at hn3
      subst hn3
      have HK3 := hide (HK2.out.trans hk (by simp))
      have HA3 := hide (HA2.out.kept hk (by simp))
      have HV3 := hide (HV2.out.kept hk (by simp))
      have HT3 := hide hv30
      clear hk hv3 hv30 HK2 HA2 HV2
      go_wp2
      go_loopw [13] (fun i wr => ∃ q : Nat, q ≤ 15 ∧ i = .int .i64 q ∧ Hid (Kept [] W3 wr)) (fun i wr => 15 - (intOf i).toNat)
      case atStart => exact ⟨0, by omega, rfl, hide (Kept.refl _ _)⟩
      case round =>
        obtain ⟨q, hq, rfl, HKW⟩ := hrel
        by_cases hlt : q < 15
        · by_cases hin : q < j
          · obtain ⟨x, hx⟩ : ∃ x, l[q]? = some x := ⟨_, List.getElem?_eq_getElem (by rw [HLJ.out]; exact hin)⟩
            obtain ⟨ad, rfl, _, a0⟩ := (HV3.out.kept HKW.out (by simp)) q (I x) (by rw [List.getElem?_map, hx]; rfl)
            obtain ⟨ad3, rfl, _, a3⟩ := (HT3.out.kept HKW.out (by simp)) q (I x) (by rw [List.getElem?_map, full_at l q x hx]; rfl)
            unfold I at a0 a3
            clear hx
            go_wp2
            go_roundw
            case rel => exact ⟨q + 1, by omega, by go_num, HKW⟩
            case measure => simp [intOf]; omega
          · obtain ⟨ad3, rfl, _, a3⟩ := (HT3.out.kept HKW.out (by simp)) q (I 0) (by rw [List.getElem?_map, full_more l q (by rw [HLJ.out]; omega) hlt]; rfl)
            unfold I at a3
            go_wp2
            go_roundw
            case rel => exact ⟨q + 1, by omega, by go_num, HKW⟩
            case measure => simp [intOf]; omega
        · have HK4 := hide (HK3.out.trans HKW.out (by simp))
          have HA4 := hide (HA3.out.kept HKW.out (by simp))
          clear HKW HK3 HA3 HV3 HT3
          go_wp2_with fail
          refine (crc.turned_below (some ⟨b, 0, none⟩) 64 60 c2 a p (body l) (super.sumOf (body l)) _ (HA4.out.vals (by simp)) HYL.out HBL.out hc (by omega) (by omega) (by omega) HP.out).mono ?_
          rintro e W7 ⟨gt, first, out, any, rfl, _, hfirst, hturn, hax, hk⟩
          have hf : first < 480 := by
            have := Int.emod_lt_of_pos a (show (0 : Int) < ((8 * 60 : Nat) : Int) by omega)
            have := Int.emod_nonneg a (show ((8 * 60 : Nat) : Int) ≠ 0 by omega)
            omega
          obtain ⟨u, eu, hu⟩ : ∃ u eu, pg.decode (out ++ super.sumOf (body l)) = (u, eu) := ⟨_, _, rfl⟩
          have HC := hide (decode_turned l HM.out out first p any hturn hf u eu hu)
          have HLT : Hid ((out ++ super.sumOf (body l)).length = 64) := hide (by rw [List.length_append, hturn.len, HBL.out, super.sumOf_len])
          have HU := hide hu
          have HK7 := hide (HK4.out.trans hk (by simp))
          have HV7 := hide (hax.vals (S := []) (by simp))
          clear hfirst hturn hax hk hf hu HK4 HA4
          go_wp2_with fail
          refine (decode_any (some ⟨gt, 0, none⟩) 64 64 (out ++ super.sumOf (body l)) _ HV7.out HLT.out (by simp) (by omega)).mono ?_
          rintro e W8 ⟨A8, n8, c8, rfl, _, _, hk⟩
          rw [HU.out]
          have HK8 := hide (HK7.out.trans hk (by simp))
          clear hk HK7 HV7
          rcases HC.out with ⟨rfl, rfl⟩ | ⟨rfl, rfl⟩
          · go_wp2_with fail
            refine (awake_any _).mono ?_
            rintro e W9 ⟨rfl, hk⟩
            have HK9 := hide (HK8.out.trans hk (by simp))
            clear hk
            go_wp2
            go_ret
            exact ⟨rfl, HK9.out.below (by simp)⟩
          · go_wp2_with fail
            refine (awake_any _).mono ?_
            rintro e W9 ⟨rfl, hk⟩
            have HK9 := hide (HK8.out.trans hk (by simp))
            clear hk
            go_wp2
            go_ret
            exact ⟨rfl, HK9.out.below (by simp)⟩

theorem walk (a0 : Option Addr) (len0 cap0 : Nat) (z0 : List Int) (a1 : Int) (a2 : Int) (w : World) (w0 : IsRow .i64 w a0 len0 cap0 z0) (w1 : (Lit.int .i64 a1).wf = true) (w2 : (Lit.int .u32 a2).wf = true) :
    Calls Try.prog 4 #[.slice a0 len0 cap0, .int .i64 a1, .int .u32 a2] w fun e w' => e = .returned (.bool true) ∧ Below w.heap.size w w' := by
  obtain ⟨l, hl, hlc, hv, _⟩ := w0.ints
  have hu2 := bounds_u32 w2
  obtain ⟨p, rfl⟩ : ∃ p : Nat, a2 = p := ⟨a2.toNat, by omega⟩
  by_cases h : len0 ≤ 15
  · exact walk_in a0 len0 cap0 l a1 p w h hv hl (by omega)
  · exact walk_long a0 len0 cap0 a1 p w (by omega)

/-! ### the row's step, as the guide's skeleton has it -/
set_option maxRecDepth 100000 in
theorem lifted (os : Os) (started : os.Started) (H : Type) (enc : TypeId × Value → H) :
    ReturnsInHanded {} Try.checked os 4 .any (Rows.pageBackSpec.pre6 enc Try.prog Try.f4 Rows.pageBackRow.domain false) (Rows.pageBackSpec.post enc Try.prog Try.f4 false true false false) := by
  refine returnsInHanded_of_change (C := Try.checked) own started (by kernel_rfl) Try.func4
    (ChangeSpec.witness6 (enc := enc) (C := Try.checked) false ⟨#[], #[.slice none 0 0, .int .i64 0, .int .u32 0], []⟩ 8 (by kernel_rfl) (by kernel_rfl) (by kernel_rfl) (by kernel_rfl)) ?_
  intro W base args ds gs before hval0 hW hcnd _
  have hval : ∀ (j : Nat) t v, Try.f4.params[j]? = some t → args[j]? = some v → Value.okWide Try.prog W .any base t v := hval0
  have hW' := hW
  obtain ⟨p, q, hA0, hV, rfl, hfz, hnd⟩ := hW
  have hA : DataW.TrodAll enc Try.prog W 0 (fun _ => true) true Try.f4.params.toList args.toList ds p := hA0
  rw [Try.params4] at hA hval
  obtain ⟨v0, vs0, d0, ds0, p0, q0, hargs, rfl, rfl, h0, r0⟩ := trodAll_cons hA
  obtain ⟨v1, vs1, d1, ds1, p1, q1, rfl, rfl, rfl, h1, r1⟩ := trodAll_cons r0
  obtain ⟨v2, vs2, d2, ds2, p2, q2, rfl, rfl, rfl, h2, r2⟩ := trodAll_cons r1
  obtain ⟨rfl, rfl, rfl⟩ := trodAll_nil r2
  obtain rfl : args = #[v0, v1, v2] := by cases args; simp_all
  obtain ⟨rfl, rfl⟩ := trodVars_none hV
  obtain ⟨a0, len0, cap0, rfl⟩ := okWide_slice Try.underlying22 (hval 0 22 v0 rfl rfl)
  have k0 := h0
  have lt0 : ∀ x ∈ p0, x.block < W.heap.size := by obtain ⟨m, hm⟩ := k0; exact DataW.trod_lt m _ _ _ hm
  obtain ⟨z0, w0⟩ : ∃ zs, IsRow .i64 W a0 len0 cap0 zs := by
    obtain ⟨fuel, hf⟩ := h0
    rcases open_ints Try.underlying22 Try.underlying3 (by kernel_rfl) hf with ⟨hcs, _⟩ | ⟨x, l, c, zs, hcs, _, hl, hm, hz, _, hcell, hwz⟩
    · simp [Value.cells] at hcs
      obtain ⟨rfl, rfl, rfl⟩ := hcs
      exact ⟨[], .inl ⟨rfl, rfl, rfl, rfl⟩⟩
    · simp [Value.cells] at hcs
      obtain ⟨rfl, rfl, rfl⟩ := hcs
      exact ⟨zs, .inr ⟨_, rfl, hl, hm, by simpa using hz, hcell, hwz⟩⟩
  obtain ⟨a1, rfl, rfl, rfl, w1⟩ := open_int Try.underlying3 (hval 1 3 v1 rfl rfl) h1
  obtain ⟨a2, rfl, rfl, rfl, w2⟩ := open_int Try.underlying37 (hval 2 37 v2 rfl rfl) h2
  clear hA0 hval0
  refine (walk a0 len0 cap0 z0 a1 a2 W w0 w1 w2).mono fun e W' ⟨he, bel⟩ => ?_
  subst he
  exact ⟨_, rfl, _, _, _, [], _, [], hW', trodAll_mk1 (shut_bool Try.underlying4 _), (trodAll_cons_mk (Below.trod laidOut (by kernel_rfl) (of_decide_eq_true (by kernel_rfl)) k0 bel lt0) (trodAll_cons_mk (shut_int Try.underlying3 w1) (trodAll_cons_mk (shut_int Try.underlying37 w2) trodAll_mk0))), rfl, bel.frame _, fun h => by cases h⟩

theorem over : Rows.pageBackRow.holds Try.pinned (OpenSpec.ofChange Rows.pageBackSpec) :=
  OpenClaim.holds_of_wide 4 Try.f4 rfl rfl rfl rfl rfl rfl rfl ⟨rfl, rfl, rfl, rfl, rfl⟩ rfl rfl rfl rfl rfl (by kernel_rfl) Try.func4 (by kernel_rfl)
    (of_decide_eq_true (by kernel_rfl)) (by unfold Func.isWrapper; first | (rw [if_pos (by decide +kernel)]; kernel_rfl) | (rw [if_neg (by decide +kernel)]; exact ⟨rfl, rfl⟩))
    (fun os started H enc _ => lifted os started H enc)

/-- The statement. -/
theorem proved : Rows.PageBackSaid := over
#print axioms proved
end Go.Proofs.Ythjhegjbpfbbdaa.pageBack

