/-
  The given statement ItemManySaid is proved: whatever the arguments are, the law returns true and leaves its input as it was. No conditions.
-/
import Derived.Test.YtbghkfjjmgmjmaaItemIn
import Derived.WalkKit
import Derived.ProofKit
import Derived.OpenShut
import Derived.ShutString
import Derived.ChangeOld
import Derived.Below
namespace Go.Proofs.Ytbghkfjjmgmjmaa.itemMany
open Go.ChangeShapes Go.WideShapes Go.ChangeAt Go.RowKit
open Go.ChangeMaps (open_string shut_string)
open Go.Proofs.Ytbghkfjjmgmjmaa.mem Go.Proofs.Ytbghkfjjmgmjmaa.base Go.Proofs.Ytbghkfjjmgmjmaa.item Go.Proofs.Ytbghkfjjmgmjmaa.row
set_option linter.unusedVariables false

theorem own : ownKnob Try.prog.godebug = none := by kernel_rfl
theorem laidOut : laidOutB Try.prog = true := by kernel_rfl

set_option maxRecDepth 100000 in
theorem walk_out (L : Option Addr) (n c : Nat) (bad : It) (w : World) (h : n < 1 ∨ 1 ≤ n ∧ 6 < n) :
    Calls Try.prog 6 #[.slice L n c, bad.val] w fun e w' => e = .returned (.bool true) ∧ Below w.heap.size w w' := by
  have HK := hide ((Kept.refl [] w).alloc (.cells bad.cells 26))
  unfold It.val
  rcases h with h | h
  · go_enter Try.func6, Try.ntmps6
    go_wp2_with fail
    refine (awake_any _).mono ?_
    rintro e W2 ⟨rfl, hk⟩
    have HK2 := hide (HK.out.trans hk (by simp))
    clear hk
    go_wp2
    go_ret
    exact ⟨rfl, HK2.out.below (by simp)⟩
  · go_enter Try.func6, Try.ntmps6
    go_wp2_with fail
    refine (awake_any _).mono ?_
    rintro e W2 ⟨rfl, hk⟩
    have HK2 := hide (HK.out.trans hk (by simp))
    clear hk
    go_wp2
    go_ret
    exact ⟨rfl, HK2.out.below (by simp)⟩

set_option maxRecDepth 100000 in
theorem walk_may (L : Option Addr) (n c : Nat) (bad : It) (w : World) (h1 : 1 ≤ n) (h2 : n ≤ 6) (hb : bad.may = true) :
    Calls Try.prog 6 #[.slice L n c, bad.val] w fun e w' => e = .returned (.bool true) ∧ Below w.heap.size w w' := by
  have HK := hide ((Kept.refl [] w).alloc (.cells bad.cells 26))
  unfold It.val
  go_enter Try.func6, Try.ntmps6
  go_wp2_with fail
  refine (may_any bad _).mono ?_
  rintro e W1 ⟨rfl, hk⟩
  rw [hb]
  have HK1 := hide (HK.out.trans hk (by simp))
  clear hk
  go_wp2_with fail
  refine (awake_any _).mono ?_
  rintro e W2 ⟨rfl, hk⟩
  have HK2 := hide (HK1.out.trans hk (by simp))
  clear hk
  go_wp2
  go_ret
  exact ⟨rfl, HK2.out.below (by simp)⟩

set_option maxRecDepth 100000 in
set_option maxHeartbeats 1000000 in
theorem walk_in (L : Option Addr) (n c : Nat) (l : List It) (bad : It) (w : World) (hv : Items w [] L l) (hl : l.length = n) (h1 : 1 ≤ n) (h2 : n ≤ 6) (hb : bad.may = false) :
    Calls Try.prog 6 #[.slice L n c, bad.val] w fun e w' => e = .returned (.bool true) ∧ Below w.heap.size w w' := by
  have HV := hide hv
  have HL := hide hl
  have HB0 := hide (Blk.new w 26 bad.cells)
  have HK0 := hide ((Kept.refl [] w).alloc (.cells bad.cells 26))
  clear hv hl
  obtain ⟨q, hq⟩ : ∃ q, w.heap.size = q := ⟨_, rfl⟩
  unfold It.val
  go_enter Try.func6, Try.ntmps6
  rw [hq] at HB0
  go_wp2_with fail
  refine (may_any bad _).mono ?_
  rintro e w1 ⟨rfl, hk⟩
  rw [hb]
  have HK1 := hide (HK0.out.trans hk (by simp))
  have HB1 := hide (hk.blk HB0.out (by simp))
  have hq1 := HB1.out.lt
  have hw1 := HK1.out.size
  clear hk HK0 HB0
  go_wp2
  go_loopw [5, 7] (fun v i wr => ∃ k : Nat, k ≤ n ∧ i = .int .i64 k ∧ Hid (Own wr w1.heap.size v ((l.take k).map madeOf)) ∧ Hid (Kept [] w1 wr)) (fun v i wr => n - (intOf i).toNat)
  case atStart => exact ⟨0, by omega, rfl, hide (Own.nil _ _), hide (Kept.refl _ _)⟩
  case round =>
    obtain ⟨k, hk, rfl, HO2, HK2⟩ := hrel
    obtain ⟨L2, cc2, hV, _⟩ := HO2.out.slice
    have hlk : ((l.take k).map madeOf).length = k := by rw [List.length_map, List.length_take, HL.out]; omega
    rw [hlk] at hV
    subst hV
    have HLK := hide hlk
    clear hlk
    by_cases hlt : k < n
    · obtain ⟨i, hi⟩ : ∃ i, l[k]? = some i := ⟨_, List.getElem?_eq_getElem (by rw [HL.out]; exact hlt)⟩
      obtain ⟨ad, rfl, _, c0, c1, c2, c3⟩ := (HV.out.kept (HK1.out.trans HK2.out (by simp)) (by simp)).at_ hi
      have hts : (l.take (k + 1)).map madeOf = (l.take k).map madeOf ++ [madeOf i] := by rw [List.take_add_one, hi]; simp
      have HT := hide hts
      clear hi hts
      go_wp2_with fail
      refine (made_any i _).mono ?_
      rintro e w2 ⟨rfl, hk2⟩
      have HK3 := hide (HK2.out.trans hk2 (by simp))
      have HO3 := hide (HO2.out.kept hk2 (by simp))
      have hs3 := HK3.out.size
      clear hk2 c0 c1 c2 c3
      have HO4 : Hid (∀ o : Obj, (w2.alloc o).ownsRow w1.heap.size 26 4 (.slice L2 k cc2) k (valsOf ((l.take k).map madeOf))) := hide (fun o => (HO3.out.kept ((Kept.refl [] w2).alloc o) (by simp)).any HLK.out)
      unfold It.val
      go_wp2_with (at_builtin; refine wpList_append_vals rfl (.tmp 32) (.tmp 38) 22 rfl w1.heap.size 26 It.zero.val 4 32 Try.underlying22 item_info rfl (by omega) (.slice L2 k cc2) k (valsOf ((l.take k).map madeOf)) rfl (HO4.out _) [] _ 1 1 (madeOf i).vals rfl rfl (Vals.new _ [] _ _ (by simp)) (oneCell_It _) (by simp only [maxLen]; omega) (by omega) (by simp; omega) ?_; intro v1 w5 hown1 hk1 hat1)
      have hO : Own w5 w1.heap.size v1 ((l.take (k + 1)).map madeOf) := by
        rw [HT.out]
        exact Own.more hown1 HLK.out
      have hK := kept_snoc HO3.out (Nat.le_refl _) (HK3.out.alloc _) hk1
      exact ⟨⟨k + 1, by omega, by go_num, hide hO, hide hK⟩, by simp [intOf]; omega⟩
    · obtain rfl : k = n := by omega
      have hfull : l.take k = l := List.take_of_length_le (by rw [HL.out]; exact Nat.le_refl _)
      rw [hfull] at HO2 HLK
      clear hfull hlt hk
      obtain ⟨M, hM⟩ : ∃ M, l.map madeOf = M := ⟨_, rfl⟩
      rw [hM] at HO2 HLK
      have HMM : Hid (allMay M) := hide (by rw [← hM]; exact allMay_made l)
      clear hM
      obtain ⟨z, hz⟩ : ∃ z, M[0]? = some z := ⟨_, List.getElem?_eq_getElem (by rw [HLK.out]; omega)⟩
      have HZ := hide hz
      clear hz
      obtain ⟨_, _, hV2, _, _, hit, _⟩ := HO2.out.slice
      rw [HLK.out] at hV2
      cases hV2
      have HI2 := hide (hit [] (by simp))
      have HB2 := hide (HK2.out.blk HB1.out (by simp))
      have hsr := HK2.out.size
      clear hit
      generalize wr = w4 at *
      go_wp2
      go_loopw [6, 8] (fun v i wx => ∃ j : Nat, j ≤ 7 ∧ i = .int .i64 j ∧ Hid (Own wx w4.heap.size v (List.replicate j z)) ∧ Hid (Kept [] w4 wx)) (fun v i wx => 7 - (intOf i).toNat)
      case atStart => exact ⟨0, by omega, rfl, hide (Own.nil _ _), hide (Kept.refl _ _)⟩
      case round =>
        obtain ⟨j, hj, rfl, HO5, HK5⟩ := hrel
        obtain ⟨L5, cc5, hV, _⟩ := HO5.out.slice
        rw [List.length_replicate] at hV
        subst hV
        by_cases hlt : j < 7
        · obtain ⟨ad, hLa, _, hc⟩ := (HI2.out.kept HK5.out (by simp)).at_ HZ.out
          rw [show ad.add (0 * 4) = ad by simp [Addr.add]] at hc
          obtain ⟨c0, c1, c2, c3⟩ := hc
          rw [hLa]
          have HO6 : Hid (∀ o : Obj, (wr.alloc o).ownsRow w4.heap.size 26 4 (.slice L5 j cc5) j (valsOf (List.replicate j z))) := hide (fun o => (HO5.out.kept ((Kept.refl [] wr).alloc o) (by simp)).any List.length_replicate)
          have hs5 := HK5.out.size
          go_wp2_with (at_builtin; refine wpList_append_vals rfl (.tmp 44) (.tmp 48) 22 rfl w4.heap.size 26 It.zero.val 4 32 Try.underlying22 item_info rfl (by omega) (.slice L5 j cc5) j (valsOf (List.replicate j z)) rfl (HO6.out _) [] _ 1 1 z.vals rfl rfl (Vals.new _ [] _ _ (by simp)) (oneCell_It _) (by simp only [maxLen]; omega) (by omega) (by simp; omega) ?_; intro v1 w5 hown1 hk1 hat1)
          have hO : Own w5 w4.heap.size v1 (List.replicate (j + 1) z) := by
            rw [List.replicate_succ']
            exact Own.more hown1 List.length_replicate
          have hK := kept_snoc HO5.out (Nat.le_refl _) (HK5.out.alloc _) hk1
          exact ⟨⟨j + 1, by omega, by go_num, hide hO, hide hK⟩, by simp [intOf]; omega⟩
        · obtain rfl : j = 7 := by omega
          have HK6 := hide (HK2.out.trans HK5.out (by simp))
          have HO6 := hide (HO2.out.kept HK5.out (by simp))
          have HB6 := hide (HK5.out.blk HB2.out (by simp))
          go_wp2_with fail
          refine (encode_many_any L5 7 cc5 _ (by omega)).mono ?_
          rintro e w7 ⟨rfl, hk7⟩
          have HK7 := hide (HK6.out.trans hk7 (by simp))
          have HO7 := hide (HO6.out.kept hk7 (by simp))
          have HB7 := hide (hk7.blk HB6.out (by simp))
          clear hk7 HK6 HO6 HB6 HO5 HK5
          obtain ⟨m, rfl⟩ : ∃ m, k = m + 1 := ⟨k - 1, by omega⟩
          obtain ⟨g, c7, z7, hv7, hg7, hf7, hc7, hput⟩ := HO7.out.put m (by rw [HLK.out]; omega)
          rw [HLK.out] at hv7
          cases hv7
          obtain ⟨c0, c1, c2, c3⟩ := hc7
          have f0 : w7.frozen? ⟨g, m * 4, none⟩ = false := hf7 0
          have f1 := hf7 1
          have f2 := hf7 2
          have f3 := hf7 3
          have hO8 := hput bad
          have hK8 := put_kept4 (m * 4) bad HK7.out (g := g) (.inr hg7)
          obtain ⟨d0, d1, d2, d3⟩ := It.cell_at HB7.out
          have HO8 := hide hO8
          have HK8 := hide hK8
          clear hf7 hput hO8 hK8
          go_wp2_with fail
          generalize ((((w7.setCell ⟨g, m * 4, none⟩ (.int .i64 bad.k)).setCell ⟨g, m * 4 + 1, none⟩ (.int .i64 bad.b)).setCell ⟨g, m * 4 + 2, none⟩ (.int .i64 bad.c)).setCell ⟨g, m * 4 + 3, none⟩ (.int .i64 bad.v)) = w8 at HO8 HK8 ⊢
          clear c0 c1 c2 c3 f0 f1 f2 f3 d0 d1 d2 d3
          have HLS : Hid ((M.set m bad).length = m + 1) := hide (by rw [List.length_set]; exact HLK.out)
          have HE : Hid (encode (M.set m bad) = ([], 1)) := hide (encode_bad _ bad (by
            rw [List.mem_iff_getElem?]
            exact ⟨m, by rw [List.getElem?_set_self (by rw [HLK.out]; omega)]⟩) hb)
          obtain ⟨_, _, hv8, _, _, hit8, _⟩ := HO8.out.slice
          rw [HLS.out] at hv8
          cases hv8
          have HI8 := hide (hit8 [] (by simp))
          clear hit8
          refine (encode_all _ (m + 1) cc2 (M.set m bad) _ HI8.out HLS.out).mono ?_
          rintro e w9 ⟨A9, n9, c9, rfl, hn9, _, hk9⟩
          rw [HE.out] at hn9 ⊢
          obtain rfl : n9 = 0 := hn9
          have HK9 := hide (HK8.out.trans hk9 (by simp))
          clear hk9
          go_wp2_with fail
          refine (awake_any _).mono ?_
          rintro e w10 ⟨rfl, hk⟩
          have HK10 := hide (HK1.out.trans (HK9.out.trans hk (by simp)) (by simp))
          clear hk
          go_wp2
          go_ret
          exact ⟨rfl, HK10.out.below (by simp)⟩

theorem walk (a0 : Option Addr) (len0 cap0 : Nat) (l0 : List (List Int)) (a1_0 a1_1 a1_2 a1_3 : Int) (w : World) (w0 : Slab w 4 a0 l0) (e0 : l0.length = len0) (b0 : len0 ≤ cap0 ∧ cap0 ≤ maxLen) (w1_0 : (Lit.int .i64 a1_0).wf = true) (w1_1 : (Lit.int .i64 a1_1).wf = true) (w1_2 : (Lit.int .i64 a1_2).wf = true) (w1_3 : (Lit.int .i64 a1_3).wf = true) :
    Calls Try.prog 6 #[.slice a0 len0 cap0, .agg #[.int .i64 a1_0, .int .i64 a1_1, .int .i64 a1_2, .int .i64 a1_3]] w fun e w' => e = .returned (.bool true) ∧ Below w.heap.size w w' := by
  obtain ⟨its, hl, hi⟩ := items_of w0
  by_cases h : 1 ≤ len0 ∧ len0 ≤ 6
  · by_cases hb : It.may ⟨a1_0, a1_1, a1_2, a1_3⟩ = true
    · exact walk_may a0 len0 cap0 ⟨a1_0, a1_1, a1_2, a1_3⟩ w h.1 h.2 hb
    · exact walk_in a0 len0 cap0 its ⟨a1_0, a1_1, a1_2, a1_3⟩ w hi (hl.trans e0) h.1 h.2 ((Bool.not_eq_true _).mp hb)
  · exact walk_out a0 len0 cap0 ⟨a1_0, a1_1, a1_2, a1_3⟩ w (by omega)

/-! ### the row's step, as the guide's skeleton has it -/
set_option maxRecDepth 100000 in
theorem lifted (os : Os) (started : os.Started) (H : Type) (enc : TypeId × Value → H) :
    ReturnsInHanded {} Try.checked os 6 .any (Rows.itemManySpec.pre6 enc Try.prog Try.f6 Rows.itemManyRow.domain false) (Rows.itemManySpec.post enc Try.prog Try.f6 false true false false) := by
  refine returnsInHanded_of_change (C := Try.checked) own started (by kernel_rfl) Try.func6
    (ChangeSpec.witness6 (enc := enc) (C := Try.checked) false ⟨#[], #[.slice none 0 0, .agg #[.int .i64 0, .int .i64 0, .int .i64 0, .int .i64 0]], []⟩ 8 (by kernel_rfl) (by kernel_rfl) (by kernel_rfl) (by kernel_rfl)) ?_
  intro W base args ds gs before hval0 hW hcnd _
  have hval : ∀ (j : Nat) t v, Try.f6.params[j]? = some t → args[j]? = some v → Value.okWide Try.prog W .any base t v := hval0
  have hW' := hW
  obtain ⟨p, q, hA0, hV, rfl, hfz, hnd⟩ := hW
  have hA : DataW.TrodAll enc Try.prog W 0 (fun _ => true) true Try.f6.params.toList args.toList ds p := hA0
  rw [Try.params6] at hA hval
  obtain ⟨v0, vs0, d0, ds0, p0, q0, hargs, rfl, rfl, h0, r0⟩ := trodAll_cons hA
  obtain ⟨v1, vs1, d1, ds1, p1, q1, rfl, rfl, rfl, h1, r1⟩ := trodAll_cons r0
  obtain ⟨rfl, rfl, rfl⟩ := trodAll_nil r1
  obtain rfl : args = #[v0, v1] := by cases args; simp_all
  obtain ⟨rfl, rfl⟩ := trodVars_none hV
  obtain ⟨a0, len0, cap0, rfl⟩ := okWide_slice Try.underlying41 (hval 0 41 v0 rfl rfl)
  have k0 := h0
  have lt0 : ∀ x ∈ p0, x.block < W.heap.size := by obtain ⟨m, hm⟩ := k0; exact DataW.trod_lt m _ _ _ hm
  obtain ⟨l0, e0, w0, b0⟩ : ∃ l : List (List Int), l.length = len0 ∧ Slab W 4 a0 l ∧ len0 ≤ cap0 ∧ cap0 ≤ maxLen := by
    obtain ⟨fuel, hf⟩ := h0
    exact slab_of Try.underlying41 (by kernel_rfl) (fun _ cs x hl h => array_cells Try.underlying3 (by kernel_rfl) Try.underlying43 (by kernel_rfl) _ cs x hl h) hf
  have k1 := h1
  have lt1 : ∀ x ∈ p1, x.block < W.heap.size := by obtain ⟨m, hm⟩ := k1; exact DataW.trod_lt m _ _ _ hm
  obtain ⟨xs1, rfl, hl1, hx1⟩ := agg_ints (ts := List.replicate 4 3) (n := 4) (by kernel_rfl) (by kernel_rfl) (fun u hu => by rw [List.eq_of_mem_replicate hu]; exact Try.underlying3) (by kernel_rfl) (hval 1 26 v1 rfl rfl)
  obtain ⟨a1_0, a1_1, a1_2, a1_3, rfl⟩ := list4 hl1
  have w1_0 := hx1 a1_0 (by simp)
  have w1_1 := hx1 a1_1 (by simp)
  have w1_2 := hx1 a1_2 (by simp)
  have w1_3 := hx1 a1_3 (by simp)
  clear hA0 hval0
  refine (walk a0 len0 cap0 l0 a1_0 a1_1 a1_2 a1_3 W w0 e0 b0 w1_0 w1_1 w1_2 w1_3).mono fun e W' ⟨he, bel⟩ => ?_
  subst he
  exact ⟨_, rfl, _, _, _, [], _, [], hW', trodAll_mk1 (shut_bool Try.underlying4 _), (trodAll_cons_mk (Below.trod laidOut (by kernel_rfl) (of_decide_eq_true (by kernel_rfl)) k0 bel lt0) (trodAll_cons_mk (Below.trod laidOut (by kernel_rfl) (of_decide_eq_true (by kernel_rfl)) k1 bel lt1) trodAll_mk0)), rfl, bel.frame _, fun h => by cases h⟩

theorem over : Rows.itemManyRow.holds Try.pinned (OpenSpec.ofChange Rows.itemManySpec) :=
  OpenClaim.holds_of_wide 6 Try.f6 rfl rfl rfl rfl rfl rfl rfl ⟨rfl, rfl, rfl, rfl, rfl⟩ rfl rfl rfl rfl rfl (by kernel_rfl) Try.func6 (by kernel_rfl)
    (of_decide_eq_true (by kernel_rfl)) (by unfold Func.isWrapper; first | (rw [if_pos (by decide +kernel)]; kernel_rfl) | (rw [if_neg (by decide +kernel)]; exact ⟨rfl, rfl⟩))
    (fun os started H enc _ => lifted os started H enc)

/-- The statement. -/
theorem proved : Rows.ItemManySaid := over
#print axioms proved
end Go.Proofs.Ytbghkfjjmgmjmaa.itemMany

