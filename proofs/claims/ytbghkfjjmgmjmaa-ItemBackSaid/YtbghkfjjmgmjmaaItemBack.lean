/-
  The given statement ItemBackSaid is proved: whatever the arguments are, the law returns true and leaves its input as it was. No conditions.
-/
import Derived.Test.YtbghkfjjmgmjmaaItemIn
import Derived.WalkKit
import Derived.ProofKit
import Derived.OpenShut
import Derived.ShutString
import Derived.ChangeOld
import Derived.Below
namespace Go.Proofs.Ytbghkfjjmgmjmaa.itemBack
open Go.ChangeShapes Go.WideShapes Go.ChangeAt Go.RowKit
open Go.ChangeMaps (open_string shut_string)
open Go.Proofs.Ytbghkfjjmgmjmaa.mem Go.Proofs.Ytbghkfjjmgmjmaa.base Go.Proofs.Ytbghkfjjmgmjmaa.item Go.Proofs.Ytbghkfjjmgmjmaa.row
set_option linter.unusedVariables false

theorem own : ownKnob Try.prog.godebug = none := by kernel_rfl
theorem laidOut : laidOutB Try.prog = true := by kernel_rfl

set_option maxRecDepth 100000 in
theorem walk_long (L : Option Addr) (n c : Nat) (cut : Int) (w : World) (h : 6 < n) :
    Calls Try.prog 5 #[.slice L n c, .int .i64 cut] w fun e w' => e = .returned (.bool true) ∧ Below w.heap.size w w' := by
  go_enter Try.func5, Try.ntmps5
  go_wp2_with fail
  refine (awake_any _).mono ?_
  rintro e W2 ⟨rfl, hk⟩
  have HK2 := hide hk
  clear hk
  go_wp2
  go_ret
  exact ⟨rfl, HK2.out.below (by simp)⟩

set_option maxRecDepth 100000 in
set_option maxHeartbeats 1000000 in
theorem walk_in (L : Option Addr) (n c : Nat) (l : List It) (cut : Int) (w : World) (hv : Items w [] L l) (hl : l.length = n) (h2 : n ≤ 6) :
    Calls Try.prog 5 #[.slice L n c, .int .i64 cut] w fun e w' => e = .returned (.bool true) ∧ Below w.heap.size w w' := by
  have HV := hide hv
  have HL := hide hl
  clear hv hl
  go_enter Try.func5, Try.ntmps5
  go_wp2
  go_loopw [5, 6] (fun v i wr => ∃ k : Nat, k ≤ n ∧ i = .int .i64 k ∧ Hid (Own wr w.heap.size v ((l.take k).map madeOf)) ∧ Hid (Kept [] w wr)) (fun v i wr => n - (intOf i).toNat)
  case atStart => exact ⟨0, by omega, rfl, hide (Own.nil _ _), hide (Kept.refl _ _)⟩
  case round =>
    obtain ⟨k, hk, rfl, HO2, HK2⟩ := hrel
    obtain ⟨L2, cc2, hV, _⟩ := HO2.out.slice
    have hlk : ((l.take k).map madeOf).length = k := by rw [List.length_map, List.length_take, HL.out]; omega
    rw [hlk] at hV
    subst hV
    have HLK := hide hlk
    clear hlk
    by_cases hlt : k < n
    · obtain ⟨i, hi⟩ : ∃ i, l[k]? = some i := ⟨_, List.getElem?_eq_getElem (by rw [HL.out]; exact hlt)⟩
      obtain ⟨ad, rfl, _, c0, c1, c2, c3⟩ := (HV.out.kept HK2.out (by simp)).at_ hi
      have hts : (l.take (k + 1)).map madeOf = (l.take k).map madeOf ++ [madeOf i] := by rw [List.take_add_one, hi]; simp
      have HT := hide hts
      clear hi hts
      go_wp2_with fail
      refine (made_any i _).mono ?_
      rintro e w2 ⟨rfl, hk2⟩
      have HK3 := hide (HK2.out.trans hk2 (by simp))
      have HO3 := hide (HO2.out.kept hk2 (by simp))
      have hs3 := HK3.out.size
      clear hk2 c0 c1 c2 c3
      have HO4 : Hid (∀ o : Obj, (w2.alloc o).ownsRow w.heap.size 26 4 (.slice L2 k cc2) k (valsOf ((l.take k).map madeOf))) := hide (fun o => (HO3.out.kept ((Kept.refl [] w2).alloc o) (by simp)).any HLK.out)
      unfold It.val
      go_wp2_with (at_builtin; refine wpList_append_vals rfl (.tmp 24) (.tmp 30) 22 rfl w.heap.size 26 It.zero.val 4 32 Try.underlying22 item_info rfl (by omega) (.slice L2 k cc2) k (valsOf ((l.take k).map madeOf)) rfl (HO4.out _) [] _ 1 1 (madeOf i).vals rfl rfl (Vals.new _ [] _ _ (by simp)) (oneCell_It _) (by simp only [maxLen]; omega) (by omega) (by simp; omega) ?_; intro v1 w5 hown1 hk1 hat1)
      have hO : Own w5 w.heap.size v1 ((l.take (k + 1)).map madeOf) := by
        rw [HT.out]
        exact Own.more hown1 HLK.out
      have hK := kept_snoc HO3.out (Nat.le_refl _) (HK3.out.alloc _) hk1
      exact ⟨⟨k + 1, by omega, by go_num, hide hO, hide hK⟩, by simp [intOf]; omega⟩
    · obtain rfl : k = n := by omega
      have hfull : l.take k = l := List.take_of_length_le (by rw [HL.out]; exact Nat.le_refl _)
      rw [hfull] at HO2 HLK
      clear hfull hlt hk
      obtain ⟨M, hM⟩ : ∃ M, l.map madeOf = M := ⟨_, rfl⟩
      rw [hM] at HO2 HLK
      have HMM : Hid (allMay M) := hide (by rw [← hM]; exact allMay_made l)
      have HE := hide (encode_yes M (by rw [HLK.out]; exact h2) HMM.out)
      have HD := hide (decode_laid M (by rw [HLK.out]; exact h2) HMM.out)
      have HLL : Hid ((laid M).length = 7 * k) := hide (by rw [laid_len, HLK.out])
      clear hM
      obtain ⟨_, _, hV2, hnc2, hA2, hit, _⟩ := HO2.out.slice
      rw [HLK.out] at hV2 hnc2
      cases hV2
      have HI2 := hide (hit [] (by simp))
      clear hit
      go_wp2_with fail
      refine (encode_all L2 k cc2 M _ HI2.out HLK.out).mono ?_
      rintro e w3 ⟨A3, n3, c3, rfl, hn3, hnb, hk3⟩
      rw [HE.out] at hn3 hnb ⊢
      dsimp only at hn3
      rw [HLL.out] at hn3
      subst hn3
      have hv3 := hnb.vals (S := []) (by simp)
      have hA3 := hnb.nil0
      have HK3 := hide (HK2.out.trans hk3 (by simp))
      have HI3 := hide (HI2.out.kept hk3 (by simp))
      have HV3 := hide hv3
      have HA3 := hide hA3
      have HC3 : Hid (7 * k ≤ c3) := hide (by
        rcases hnb with ⟨_, _, hb⟩ | ⟨g, _, _, _, hb⟩
        · have := HLL.out
          have hb' : laid M = [] := hb
          rw [hb'] at this
          simp at this
          omega
        · rw [← HLL.out]; exact hb.len)
      clear hk3 hnb hv3 hA3
      go_wp2_with fail
      refine (decode_any A3 (7 * k) c3 (laid M) _ HV3.out HLL.out HA3.out (by omega)).mono ?_
      rintro e w4 ⟨L4, n4, c4, rfl, hn4, _, _, hi4, hk4⟩
      rw [HD.out] at hn4 hi4 ⊢
      dsimp only at hn4
      rw [HLK.out] at hn4
      rw [hn4]
      have HK4 := hide (HK3.out.trans hk4 (by simp))
      have HI4 := hide (HI3.out.kept hk4 (by simp))
      have HV4 := hide (HV3.out.kept hk4 (by simp))
      have HX4 := hide hi4
      clear hk4 hi4
      have g7 : (((7 * k : Nat) : Int) != 7 * (k : Int)) = false := by rw [bne_eq_false_iff_eq]; omega
      go_wp2_with fail
      refine (items_any L4 L2 k k c4 cc2 M M _ HLK.out HLK.out HX4.out HI4.out (by omega)).mono ?_
      rintro e w5 ⟨rfl, hk5⟩
      rw [show decide (M = M) = true by simp]
      have HK5 := hide (HK4.out.trans hk5 (by simp))
      have HI5 := hide (HI4.out.kept hk5 (by simp))
      have HV5 := hide (HV4.out.kept hk5 (by simp))
      clear hk5 hn4
      go_wp2_with fail
      refine (base.round_any cut (7 * (k : Int) + 1) _ (by omega) (by omega)).mono ?_
      rintro e w6 ⟨rfl, rfl⟩
      have hr1 := Int.emod_nonneg cut (show (7 * (k : Int) + 1) ≠ 0 by omega)
      have hr2 := Int.emod_lt_of_pos cut (show (0 : Int) < 7 * (k : Int) + 1 by omega)
      obtain ⟨r, hr⟩ : ∃ r : Nat, cut % (7 * (k : Int) + 1) = r := ⟨(cut % (7 * (k : Int) + 1)).toNat, by omega⟩
      rw [hr] at hr1 hr2 ⊢
      clear hr hr1
      have hr3 : r ≤ 7 * k := by omega
      have hc3 := HC3.out
      have HVR : Hid (Vals w5 [] A3 (((laid M).take r).map B)) := hide (by rw [List.map_take]; exact HV5.out.first r)
      have HLR : Hid (((laid M).take r).length = r) := hide (by rw [List.length_take, HLL.out]; omega)
      go_wp2_with fail
      refine (decode_any A3 r c3 ((laid M).take r) _ HVR.out HLR.out HA3.out (by omega)).mono ?_
      rintro e w6 ⟨L6, n6, c6, rfl, hn6, _, _, hi6, hk6⟩
      have HK6 := hide (HK5.out.trans hk6 (by simp))
      have HI6 := hide (HI5.out.kept hk6 (by simp))
      clear hk6
      by_cases h7 : r % 7 = 0
      · obtain ⟨j, hj⟩ : ∃ j, r = 7 * j := ⟨r / 7, by omega⟩
        have hd : item.decode ((laid M).take r) = (M.take j, 0) := by rw [hj]; exact decode_cut M (by rw [HLK.out]; exact h2) HMM.out j
        have hlj : (M.take j).length = j := by rw [List.length_take, HLK.out]; omega
        rw [hd] at hn6 hi6 ⊢
        dsimp only at hn6
        rw [hlj] at hn6
        rw [hn6]
        have g1 : ((r : Int) % 7 != 0) = false := by rw [bne_eq_false_iff_eq]; omega
        have g2 : (r : Int) / 7 = j := by omega
        have hjk : j ≤ k := by omega
        have HJ := hide hlj
        have HX6 := hide hi6
        have HY6 := hide (HI6.out.first j)
        clear hd hi6 hn6 hj hlj h7
        go_wp2_with fail
        refine (items_any L6 L2 j j c6 cc2 (M.take j) (M.take j) _ HJ.out HJ.out HX6.out HY6.out (by omega)).mono ?_
        rintro e w7 ⟨rfl, hk7⟩
        rw [show decide (M.take j = M.take j) = true by simp]
        have HK7 := hide (HK6.out.trans hk7 (by simp))
        clear hk7
        go_wp2_with fail
        refine (awake_any _).mono ?_
        rintro e w8 ⟨rfl, hk8⟩
        have HK8 := hide (HK7.out.trans hk8 (by simp))
        clear hk8
        go_wp2
        go_ret
        exact ⟨rfl, HK8.out.below (by simp)⟩
      · have hd : item.decode ((laid M).take r) = ([], 2) := decode_odd _ (by rw [HLR.out]; exact h7)
        rw [hd] at hn6 ⊢
        have hn6' : n6 = 0 := hn6
        rw [hn6']
        have g1 : ((r : Int) % 7 != 0) = true := by rw [bne_iff_ne]; omega
        clear hd hi6 hn6 hn6' h7
        go_wp2_with fail
        refine (awake_any _).mono ?_
        rintro e w8 ⟨rfl, hk8⟩
        have HK8 := hide (HK6.out.trans hk8 (by simp))
        clear hk8
        go_wp2
        go_ret
        exact ⟨rfl, HK8.out.below (by simp)⟩

theorem walk (a0 : Option Addr) (len0 cap0 : Nat) (l0 : List (List Int)) (a1 : Int) (w : World) (w0 : Slab w 4 a0 l0) (e0 : l0.length = len0) (b0 : len0 ≤ cap0 ∧ cap0 ≤ maxLen) (w1 : (Lit.int .i64 a1).wf = true) :
    Calls Try.prog 5 #[.slice a0 len0 cap0, .int .i64 a1] w fun e w' => e = .returned (.bool true) ∧ Below w.heap.size w w' := by
  obtain ⟨its, hl, hi⟩ := items_of w0
  by_cases h : len0 ≤ 6
  · exact walk_in a0 len0 cap0 its a1 w hi (hl.trans e0) h
  · exact walk_long a0 len0 cap0 a1 w (by omega)

/-! ### the row's step, as the guide's skeleton has it -/
set_option maxRecDepth 100000 in
theorem lifted (os : Os) (started : os.Started) (H : Type) (enc : TypeId × Value → H) :
    ReturnsInHanded {} Try.checked os 5 .any (Rows.itemBackSpec.pre6 enc Try.prog Try.f5 Rows.itemBackRow.domain false) (Rows.itemBackSpec.post enc Try.prog Try.f5 false true false false) := by
  refine returnsInHanded_of_change (C := Try.checked) own started (by kernel_rfl) Try.func5
    (ChangeSpec.witness6 (enc := enc) (C := Try.checked) false ⟨#[], #[.slice none 0 0, .int .i64 0], []⟩ 8 (by kernel_rfl) (by kernel_rfl) (by kernel_rfl) (by kernel_rfl)) ?_
  intro W base args ds gs before hval0 hW hcnd _
  have hval : ∀ (j : Nat) t v, Try.f5.params[j]? = some t → args[j]? = some v → Value.okWide Try.prog W .any base t v := hval0
  have hW' := hW
  obtain ⟨p, q, hA0, hV, rfl, hfz, hnd⟩ := hW
  have hA : DataW.TrodAll enc Try.prog W 0 (fun _ => true) true Try.f5.params.toList args.toList ds p := hA0
  rw [Try.params5] at hA hval
  obtain ⟨v0, vs0, d0, ds0, p0, q0, hargs, rfl, rfl, h0, r0⟩ := trodAll_cons hA
  obtain ⟨v1, vs1, d1, ds1, p1, q1, rfl, rfl, rfl, h1, r1⟩ := trodAll_cons r0
  obtain ⟨rfl, rfl, rfl⟩ := trodAll_nil r1
  obtain rfl : args = #[v0, v1] := by cases args; simp_all
  obtain ⟨rfl, rfl⟩ := trodVars_none hV
  obtain ⟨a0, len0, cap0, rfl⟩ := okWide_slice Try.underlying41 (hval 0 41 v0 rfl rfl)
  have k0 := h0
  have lt0 : ∀ x ∈ p0, x.block < W.heap.size := by obtain ⟨m, hm⟩ := k0; exact DataW.trod_lt m _ _ _ hm
  obtain ⟨l0, e0, w0, b0⟩ : ∃ l : List (List Int), l.length = len0 ∧ Slab W 4 a0 l ∧ len0 ≤ cap0 ∧ cap0 ≤ maxLen := by
    obtain ⟨fuel, hf⟩ := h0
    exact slab_of Try.underlying41 (by kernel_rfl) (fun _ cs x hl h => array_cells Try.underlying3 (by kernel_rfl) Try.underlying43 (by kernel_rfl) _ cs x hl h) hf
  obtain ⟨a1, rfl, rfl, rfl, w1⟩ := open_int Try.underlying3 (hval 1 3 v1 rfl rfl) h1
  clear hA0 hval0
  refine (walk a0 len0 cap0 l0 a1 W w0 e0 b0 w1).mono fun e W' ⟨he, bel⟩ => ?_
  subst he
  exact ⟨_, rfl, _, _, _, [], _, [], hW', trodAll_mk1 (shut_bool Try.underlying4 _), (trodAll_cons_mk (Below.trod laidOut (by kernel_rfl) (of_decide_eq_true (by kernel_rfl)) k0 bel lt0) (trodAll_cons_mk (shut_int Try.underlying3 w1) trodAll_mk0)), rfl, bel.frame _, fun h => by cases h⟩

theorem over : Rows.itemBackRow.holds Try.pinned (OpenSpec.ofChange Rows.itemBackSpec) :=
  OpenClaim.holds_of_wide 5 Try.f5 rfl rfl rfl rfl rfl rfl rfl ⟨rfl, rfl, rfl, rfl, rfl⟩ rfl rfl rfl rfl rfl (by kernel_rfl) Try.func5 (by kernel_rfl)
    (of_decide_eq_true (by kernel_rfl)) (by unfold Func.isWrapper; first | (rw [if_pos (by decide +kernel)]; kernel_rfl) | (rw [if_neg (by decide +kernel)]; exact ⟨rfl, rfl⟩))
    (fun os started H enc _ => lifted os started H enc)

/-- The statement. -/
theorem proved : Rows.ItemBackSaid := over
#print axioms proved
end Go.Proofs.Ytbghkfjjmgmjmaa.itemBack

