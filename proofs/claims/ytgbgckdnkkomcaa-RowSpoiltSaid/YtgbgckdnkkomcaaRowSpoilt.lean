/-
  The given statement RowSpoiltSaid is proved: whatever the three integers are, the law returns true and leaves its input as it was. No conditions.
-/
import Derived.Test.YtgbgckdnkkomcaaRef
import Derived.ProofKit
import Derived.OpenShut
import Derived.ShutString
namespace Go.Proofs.Ytgbgckdnkkomcaa.rowSpoilt
open Go.ChangeShapes Go.WideShapes Go.ChangeAt Go.RowKit
open Go.ChangeMaps (open_string shut_string)
open Go.Proofs.Ytgbgckdnkkomcaa.mem Go.Proofs.Ytgbgckdnkkomcaa.row Go.Proofs.Ytgbgckdnkkomcaa.ref
set_option linter.unusedVariables false

theorem own : ownKnob Try.prog.godebug = none := by kernel_rfl

set_option maxRecDepth 100000 in
set_option maxHeartbeats 1000000 in
theorem walk_in (a0 a1 a2 : Int) (w : World) (h0 : 0 ≤ a2) (h1 : a2 ≤ 255) :
    Calls Try.prog 6 #[.int .i64 a0, .int .i64 a1, .int .i64 a2] w fun e w' => e = .returned (.bool true) ∧ Below w.heap.size w w' := by
  go_enter Try.func6, Try.ntmps6
  go_wp2_with (first | (go_at_call 23; refine (round_ex _ _ _ (by omega) (by omega)).mono ?_; rintro e w' ⟨k, hk, rfl, rfl⟩) | (go_at_call 7; refine (awake_any _).mono ?_; rintro e w' ⟨rfl, hb⟩))
  go_ret
  exact ⟨rfl, hb⟩

/-- The numbers from 0 on. -/
def upto (n : Nat) : List Int := (List.range n).map Int.ofNat
theorem upto_succ (n : Nat) : upto (n + 1) = upto n ++ [(n : Int)] := by simp [upto, List.range_succ]
theorem upto_length (n : Nat) : (upto n).length = n := by simp [upto]

/-- What lies in the row behind the second Put. -/
def laid (j : Nat) : List UInt8 := (List.range 100).map (fun i => if i < j then UInt8.ofNat i else 0)
theorem laid_length (j : Nat) : (laid j).length = 100 := by simp [laid]
theorem laid_at (j i : Nat) (hi : i < 100) : (laid j)[i]? = some (if i < j then UInt8.ofNat i else 0) := by simp [laid, hi]
theorem put_good (j : Nat) (hj : j < 20) : Row.put ⟨List.replicate 100 0, 0⟩ 1 (upto j) = (true, ⟨laid j, j⟩) := by
  have : ∀ j : Fin 20, Row.put ⟨List.replicate 100 0, 0⟩ 1 (upto j) = (true, ⟨laid j, j⟩) := by decide +kernel
  exact this ⟨j, hj⟩
theorem put_bad (R : Row) (l : List Int) (a : Int) (h : a ∈ l) (hf : fitsW 1 a = false) : R.put 1 l = (false, R) :=
  if_neg (fun hh => by rw [hh.2.1 a h] at hf; cases hf)

set_option maxRecDepth 100000 in
set_option maxHeartbeats 1000000 in
theorem walk_out (a0 a1 a2 : Int) (w : World) (h : a2 < 0 ∨ 255 < a2 ∧ 0 ≤ a2) :
    Calls Try.prog 6 #[.int .i64 a0, .int .i64 a1, .int .i64 a2] w fun e w' => e = .returned (.bool true) ∧ Below w.heap.size w w' := by
  have HF : Hid (fitsW 1 a2 = false) := hide (by unfold fitsW; simp; omega)
  rcases h with h | h
  all_goals
    go_enter Try.func6, Try.ntmps6
    go_wp2_with fail
    refine (round_ex _ _ _ (by omega) (by omega)).mono ?_
    rintro e w' ⟨k, hk, rfl, rfl⟩
    go_wp2_with fail
    refine (round_ex _ _ _ (by omega) (by omega)).mono ?_
    rintro e w' ⟨n, hn, rfl, rfl⟩
    go_wp2_with fail
    go_loopw [9, 10] (fun v i wr => ∃ j : Nat, j ≤ k ∧ i = .int .i64 j ∧ wr.ownsRow w.heap.size 3 1 v j ((upto j).map I) ∧ Kept [] w wr) (fun v i wr => k - (intOf i).toNat)
    case atStart => exact ⟨0, by omega, rfl, World.ownsRow_nil _ _ _ _, Kept.refl _ _⟩
    case round =>
      obtain ⟨j, hj, rfl, hown, hkw⟩ := hrel
      by_cases hlt : j < k
      · have HO := hide hown
        have HKW := hide hkw
        clear hown hkw
        go_wp2_with (at_builtin; refine wpList_append_vals rfl (.tmp 31) (.tmp 33) 28 rfl w.heap.size 3 (.int .i64 0) 1 8 Try.underlying28 int_info rfl (by omega) u9 j ((upto j).map I) rfl (HO.out.alloc _) [] _ 1 1 ([(j : Int)].map I) rfl (by simp) (vals_one wr [] j _ (by simp)) (oneCell_I [(j : Int)]) (by simp only [maxLen]; omega) (by omega) (by have := HKW.out.size; simp; omega) ?_; intro v1 w1 hown1 hk1 hat1)
        have K1 := kept_own HO.out (Nat.le_refl _) HKW.out _ hk1
        go_roundw
        case rel => exact ⟨j + 1, by omega, by go_num, by rw [upto_succ, List.map_append]; exact hown1, K1⟩
        case measure => simp [intOf]; omega
      · obtain rfl : j = k := by omega
        have HO := hide hown
        have HKW := hide hkw
        clear hown hkw
        go_wp2_with (at_builtin; refine wpList_append_vals rfl (.tmp 35) (.tmp 37) 28 rfl w.heap.size 3 (.int .i64 0) 1 8 Try.underlying28 int_info rfl (by omega) u9 j ((upto j).map I) rfl (HO.out.alloc _) [] _ 1 1 ([a2].map I) rfl (by simp) (vals_one _ [] _ _ (by simp)) (oneCell_I [a2]) (by simp only [maxLen]; omega) (by omega) (by have := HKW.out.size; simp; omega) ?_; intro v1 w1 hown1 hk1 hat1)
        have K1 := hide (kept_own HO.out (Nat.le_refl _) HKW.out _ hk1)
        have O1 := hide hown1
        clear HO HKW hk1 hat1 hown1
        go_loopw [9, 11] (fun v i wr => ∃ q : Nat, q ≤ n ∧ i = .int .i64 q ∧ wr.ownsRow w.heap.size 3 1 v (j + 1 + q) ((upto j ++ [a2] ++ upto q).map I) ∧ Kept [] w wr) (fun v i wr => n - (intOf i).toNat)
        case atStart => exact ⟨0, by omega, rfl, by simpa [upto] using O1.out, K1.out⟩
        case round =>
          obtain ⟨q, hq, rfl, hown, hkw⟩ := hrel
          by_cases hlt2 : q < n
          · have HO := hide hown
            have HKW := hide hkw
            clear hown hkw
            go_wp2_with (at_builtin; refine wpList_append_vals rfl (.tmp 44) (.tmp 46) 28 rfl w.heap.size 3 (.int .i64 0) 1 8 Try.underlying28 int_info rfl (by omega) u9 (j + 1 + q) ((upto j ++ [a2] ++ upto q).map I) rfl (HO.out.alloc _) [] _ 1 1 ([(q : Int)].map I) rfl (by simp) (vals_one _ [] _ _ (by simp)) (oneCell_I [(q : Int)]) (by simp only [maxLen]; omega) (by omega) (by have := HKW.out.size; simp; omega) ?_; intro v1 w1 hown1 hk1 hat1)
            have K2 := kept_own HO.out (Nat.le_refl _) HKW.out _ hk1
            go_roundw
            case rel => exact ⟨q + 1, by omega, by go_num, by rw [upto_succ, ← List.append_assoc, List.map_append]; exact hown1, K2⟩
            case measure => simp [intOf]; omega
          · obtain rfl : q = n := by omega
            obtain ⟨A0, c0, rfl, hnc, hAn, hV, _⟩ := own_slice hown
            have HV := hide hV
            have hsw := hkw.size
            have HKW := hide hkw
            clear hown hkw hV O1 K1
            go_wp2_with fail
            refine (new_at 100 _ (by omega) (by omega)).mono ?_
            rintro e w1 ⟨p, b, cap, A, rfl, hp, hb, hb1, hr, hk1⟩
            rw [show (100 : Int).toNat = 100 from rfl] at hr
            have H1 := hide hr
            have K1 := hide (HKW.out.trans hk1 (by simp))
            clear hr
            have hnA : (upto j ++ [a2] ++ upto q).length = j + 1 + q := by simp [upto_length]; omega
            have HN := hide hnA
            clear hnA
            have hs1 := K1.out.size
            have HV1 : Hid (Vals w1 [p, b] A0 ((upto j ++ [a2] ++ upto q).map I)) := hide ((HV.out [p, b] (by simp; omega)).kept hk1 (by simp))
            clear hk1
            go_wp2_with fail
            refine (put_len p b cap A _ 1 A0 (upto j ++ [a2] ++ upto q) _ c0 _ HN.out H1.out HV1.out (by omega)).mono ?_
            rintro e w2 ⟨rfl, h2, hk2⟩
            rw [put_bad _ _ a2 (by simp) HF.out] at *
            have H2 := hide h2
            have K2 := hide hk2
            have HV2 : Hid (Vals w2 [p, b] A0 ((upto j ++ [a2] ++ upto q).map I)) := hide (HV1.out.kept hk2 (fun _ h => h))
            clear h2 hk2 H1 HV1 HV
            go_wp2_with fail
            refine (left_eq p b cap A _ 100 _ H2.out (by simp)).mono ?_
            rintro e w3 ⟨rfl, d3, rfl⟩
            have HV3 : Hid (Vals (w2.drewN d3) [p, b] A0 ((upto j).map I)) := hide (fun i v hv => HV2.out i v (by
              have hi := (List.getElem?_eq_some_iff.1 hv).1
              rw [List.append_assoc, List.map_append, List.getElem?_append_left hi]; exact hv))
            go_wp2_with fail
            refine (put_len p b cap A _ 1 A0 (upto j) _ c0 _ (upto_length j) (H2.out.drewN d3) HV3.out (by omega)).mono ?_
            rintro e w4 ⟨rfl, h4, hk4⟩
            rw [put_good j (by omega)] at *
            have H4 := hide h4
            have K4 : Hid (Kept [p, b] w1 w4) := hide ((K2.out.drewN d3).trans hk4 (fun _ h => .inl h))
            clear h4 hk4 H2 HV2 HV3 K2
            go_wp2_with fail
            refine (left_eq p b cap A _ (100 - j) _ H4.out (by simp [laid_length])).mono ?_
            rintro e w5 ⟨rfl, d5, rfl⟩
            go_wp2_with fail
            refine (bytes_at p b cap A _ _ (H4.out.drewN d5)).mono ?_
            rintro e w6 ⟨A6, c6, rfl, hn6, hk6⟩
            rw [show (laid j).length = 100 from laid_length j] at *
            obtain ⟨g, rfl, hg, ha6⟩ := hn6.pos (by rw [laid_length]; omega)
            have HA6 := hide ha6
            have K6 : Hid (Below w.heap.size w w6) := hide ((K1.out.trans ((K4.out.drewN d5).trans hk6 (by simp)) (by simp; omega)).below (by simp))
            clear hn6 hk6 ha6 H4 K4 K1
            go_wp2_with fail
            have hj20 : Hid (j < 20) := hide (by omega)
            go_loop [14] (fun i => ∃ r : Nat, r ≤ 100 ∧ i = .int .i64 r) (fun i => 100 - (intOf i).toNat)
            case atStart => exact ⟨0, by omega, rfl⟩
            case round =>
              obtain ⟨r, hr, rfl⟩ := hrel
              by_cases hlt : r < 100
              · have hc := HA6.out.at_ (laid_at j r hlt)
                unfold B at hc
                by_cases hrj : r < j
                · rw [if_pos hrj, show (UInt8.ofNat r).toNat = r by rw [UInt8.toNat_ofNat']; have := hj20.out; omega] at hc
                  go_wp2
                  go_round
                  case rel => exact ⟨r + 1, by omega, by go_num⟩
                  case measure => simp [intOf]; omega
                · rw [if_neg hrj] at hc
                  simp only [show (0 : UInt8).toNat = 0 from rfl] at hc
                  go_wp2
                  go_round
                  case rel => exact ⟨r + 1, by omega, by go_num⟩
                  case measure => simp [intOf]; omega
              · obtain rfl : r = 100 := by omega
                go_wp2_with (go_at_call 7; refine (awake_any _).mono ?_; rintro e w7 ⟨rfl, hb7⟩)
                go_ret
                exact ⟨rfl, below_then K6.out hb7⟩
    
theorem walk (a0 : Int) (a1 : Int) (a2 : Int) (w0 : (Lit.int .i64 a0).wf = true) (w1 : (Lit.int .i64 a1).wf = true) (w2 : (Lit.int .i64 a2).wf = true) (w : World) :
    Calls Try.prog 6 #[.int .i64 a0, .int .i64 a1, .int .i64 a2] w fun e w' => e = .returned (.bool true) ∧ Below w.heap.size w w' := by
  by_cases h : 0 ≤ a2 ∧ a2 ≤ 255
  · exact walk_in a0 a1 a2 w h.1 h.2
  · exact walk_out a0 a1 a2 w (by omega)

/-! ### THE ROW's STEP: WRITTEN OUT: LEAVE IT -/
set_option maxRecDepth 100000 in
theorem lifted (os : Os) (started : os.Started) (H : Type) (enc : TypeId × Value → H) :
    ReturnsInHanded {} Try.checked os 6 .any (Rows.rowSpoiltSpec.pre6 enc Try.prog Try.f6 Rows.rowSpoiltRow.domain false) (Rows.rowSpoiltSpec.post enc Try.prog Try.f6 false true false false) := by
  refine returnsInHanded_of_change (C := Try.checked) own started (by kernel_rfl) Try.func6
    (ChangeSpec.witness6 (enc := enc) (C := Try.checked) false ⟨#[], #[.int .i64 0, .int .i64 0, .int .i64 0], []⟩ 8 (by kernel_rfl) (by kernel_rfl) (by kernel_rfl) (by kernel_rfl)) ?_
  intro W base args ds gs before hval0 hW hcnd _
  have hval : ∀ (j : Nat) t v, Try.f6.params[j]? = some t → args[j]? = some v → Value.okWide Try.prog W .any base t v := hval0
  have hW' := hW
  obtain ⟨p, q, hA0, hV, rfl, hfz, hnd⟩ := hW
  have hA : DataW.TrodAll enc Try.prog W 0 (fun _ => true) true Try.f6.params.toList args.toList ds p := hA0
  rw [Try.params6] at hA hval
  obtain ⟨v0, vs0, d0, ds0, p0, q0, hargs, rfl, rfl, h0, r0⟩ := trodAll_cons hA
  obtain ⟨v1, vs1, d1, ds1, p1, q1, rfl, rfl, rfl, h1, r1⟩ := trodAll_cons r0
  obtain ⟨v2, vs2, d2, ds2, p2, q2, rfl, rfl, rfl, h2, r2⟩ := trodAll_cons r1
  obtain ⟨rfl, rfl, rfl⟩ := trodAll_nil r2
  obtain rfl : args = #[v0, v1, v2] := by cases args; simp_all
  obtain ⟨rfl, rfl⟩ := trodVars_none hV
  obtain ⟨a0, rfl, rfl, rfl, w0⟩ := open_int Try.underlying3 (hval 0 3 v0 rfl rfl) h0
  obtain ⟨a1, rfl, rfl, rfl, w1⟩ := open_int Try.underlying3 (hval 1 3 v1 rfl rfl) h1
  obtain ⟨a2, rfl, rfl, rfl, w2⟩ := open_int Try.underlying3 (hval 2 3 v2 rfl rfl) h2
  clear hA0 hval0
  simp only [List.append_nil] at hW'
  refine (walk a0 a1 a2 w0 w1 w2 W).mono fun e W' ⟨he, bel⟩ => ?_
  subst he
  exact ⟨_, rfl, _, _, _, [], [], [], hW', trodAll_mk1 (shut_bool Try.underlying4 _), (trodAll_cons_mk (shut_int Try.underlying3 w0) (trodAll_cons_mk (shut_int Try.underlying3 w1) (trodAll_cons_mk (shut_int Try.underlying3 w2) trodAll_mk0))), rfl, bel.frame _, fun h => by cases h⟩

theorem over : Rows.rowSpoiltRow.holds Try.pinned (OpenSpec.ofChange Rows.rowSpoiltSpec) :=
  OpenClaim.holds_of_wide 6 Try.f6 rfl rfl rfl rfl rfl rfl rfl ⟨rfl, rfl, rfl, rfl, rfl⟩ rfl rfl rfl rfl rfl (by kernel_rfl) Try.func6 (by kernel_rfl)
    (of_decide_eq_true (by kernel_rfl)) (by unfold Func.isWrapper; first | (rw [if_pos (by decide +kernel)]; kernel_rfl) | (rw [if_neg (by decide +kernel)]; exact ⟨rfl, rfl⟩))
    (fun os started H enc _ => lifted os started H enc)

/-- ████ THE STATEMENT ████ -/
theorem proved : Rows.RowSpoiltSaid :=
  over
#print axioms proved
end Go.Proofs.Ytgbgckdnkkomcaa.rowSpoilt

