/-
  The given statement RowBackSaid is proved: whatever the numbers, the width and the flag are, the law returns true and leaves its input as it was. No conditions.
-/
import Derived.Test.YtgbgckdnkkomcaaRowBackMath
import Derived.Deep.RegionLaw
import Derived.ProofKit
import Derived.OpenShut
import Derived.ShutString
namespace Go.Proofs.Ytgbgckdnkkomcaa.rowBack
open Go.ChangeShapes Go.WideShapes Go.ChangeAt Go.RowKit
open Go.ChangeMaps (open_string shut_string)
open Go.Proofs.Ytgbgckdnkkomcaa.mem Go.Proofs.Ytgbgckdnkkomcaa.row Go.Proofs.Ytgbgckdnkkomcaa.ref
set_option linter.unusedVariables false

theorem own : ownKnob Try.prog.godebug = none := by kernel_rfl
theorem laidOut : laidOutB Try.prog = true := by kernel_rfl

/-- WHAT THE WALK IS TOLD OF A SLICE OF INTEGERS THAT CAME IN: it is nil; or it leads to a row of 'cap' cells, the numbers 'zs' (the first 'len' are its elements, the rest its spare room), each fitting its kind. -/
def IsRow (k : IntKind) (w : World) (a : Option Addr) (len cap : Nat) (zs : List Int) : Prop :=
  (a = none ∧ len = 0 ∧ cap = 0 ∧ zs = []) ∨
  ∃ x, a = some x ∧ len ≤ cap ∧ cap ≤ maxLen ∧ zs.length = cap ∧ (∀ i, i < zs.length → w.cell? (x.add i) = some (.int k (zs.getD i 0))) ∧ ∀ n ∈ zs, (Lit.int k n).wf = true

set_option maxRecDepth 100000 in
set_option maxHeartbeats 2000000 in
theorem walk_yes1 (N0 : Option Addr) (c0 : Nat) (nums : List Int) (one : Bool) (w : World) (hv : Vals w [] N0 (nums.map I)) (hn : nums.length ≤ 100) :
    Calls Try.prog 4 #[.slice N0 nums.length c0, .int .i64 1, .bool one] w fun e w' => e = .returned (.bool true) ∧ Below w.heap.size w w' := by
  have HV := hide hv
  clear hv
  go_enter Try.func4, Try.ntmps4
  go_wp2_with fail
  go_loopw [7, 8] (fun v i wr => ∃ l : List Int, l.length ≤ nums.length ∧ i = .int .i64 l.length ∧ Hid (∀ n ∈ l, fitsW 1 n = true) ∧ wr.ownsRow w.heap.size 3 1 v l.length (l.map I) ∧ Kept [] w wr) (fun v i wr => nums.length - (intOf i).toNat)
  case atStart => exact ⟨[], by simp, rfl, hide (by simp), World.ownsRow_nil _ _ _ _, Kept.refl _ _⟩
  case round =>
    obtain ⟨l, hl, rfl, hfit, hown, hkw⟩ := hrel
    by_cases hlt : l.length < nums.length
    · obtain ⟨ad, rfl, _, hc⟩ := (HV.out.kept hkw (by simp)) l.length (I (nums.getD l.length 0)) (getI _ _ hlt)
      generalize nums.getD l.length 0 = z at hc
      unfold I at hc
      have HO := hide hown
      have HKW := hide hkw
      clear hown hkw
      have hwa : IntKind.i64.wrap 8 = 8 := by decide
      have hwb : IntKind.i64.wrap 256 = 256 := by decide
      go_wp2
      go_region_law (first
        | (refine step_append_vals rfl (.tmp 39) (.tmp 48) 28 rfl w.heap.size 3 (.int .i64 0) 1 8 Try.underlying28 int_info rfl (by omega) u7 l.length (l.map I) rfl (HO.out.alloc _) [] _ 1 1 ([(k : Int)].map I) rfl (by simp) (vals_one _ [] _ _ (by simp)) (oneCell_I [(k : Int)]) (by simp only [maxLen]; omega) (by omega) (by have := HKW.out.size; simp; omega) ?_; intro v1 w1 hown1 hk1 hat1)
        | (go_simp; go_at_call 23; refine (round_ex _ _ _ (by omega) (by omega)).mono ?_; rintro e w' ⟨k, hk, rfl, rfl⟩))
      all_goals
        have K1 := kept_mid HO.out (Nat.le_refl _) ((HKW.out.alloc _).drew) hk1
        have HF : Hid (∀ n ∈ l ++ [(k : Int)], fitsW 1 n = true) := hide (fun n hn => by
          rcases List.mem_append.1 hn with h | h
          · exact hfit.out n h
          · have : n = (k : Int) := by simpa using h
            subst this
            simp [fitsW]; omega)
        go_wp2
        go_roundw
        case rel => exact ⟨l ++ [(k : Int)], by simp; omega, by simp, HF, by simpa using hown1, K1⟩
        case measure => simp [intOf]; omega
    · obtain ⟨A0, c1, rfl, hnc, hAn, hV, _⟩ := own_slice hown
      have HVL := hide hV
      have HKW := hide hkw
      have hll : Hid (l.length = nums.length) := hide (by omega)
      have hl100 : l.length ≤ 100 := by omega
      clear hV hown hkw hl
      go_wp2_with fail
      refine (new_at _ _ (by omega) (by omega)).mono ?_
      rintro e w1 ⟨p, b, cap, A, rfl, hp, hb, hb1, hr, hk1⟩
      rw [show (((l.length : Int))).toNat = 1 * l.length by omega, ← rowOf_nil 1 (1 * l.length)] at hr
      have HVL1 : Hid (Vals w1 [p, b] A0 (l.map I)) := hide ((HVL.out [p, b] (by simp; omega)).kept hk1 (by simp))
      have hsw := HKW.out.size
      have K1 := hide (HKW.out.trans hk1 (by simp))
      have H1 := hide hr
      have hp1 := hr.lt
      clear hr hk1 HVL
      rcases one with _ | _
      · go_wp2_with fail
        refine (put_len p b cap A _ 1 A0 l _ c1 _ rfl H1.out HVL1.out (by omega)).mono ?_
        rintro e w2 ⟨rfl, h2, hk2⟩
        rw [show Row.put (rowOf 1 (1 * l.length) []) 1 l = _ from rowOf_put 1 _ (by omega) [] l (by simp) hfit.out] at *
        have H2 := hide h2
        have K2 := hide hk2
        have HVL2 : Hid (Vals w2 [p, b] A0 (l.map I)) := hide (HVL1.out.kept hk2 (fun _ h => h))
        clear h2 hk2
        rw [List.nil_append] at H2
        go_wp2_with fail
        refine (bytes_at p b cap A _ _ H2.out).mono ?_
        rintro e w3 ⟨A3, c3, rfl, hn3, hk3⟩
        rw [rowOf_full] at *
        have N3 := hide hn3
        have K3 := hide hk3
        have H3 := hide (H2.out.kept hk3 (by simp) (by simp))
        have HVL3 : Hid (Vals w3 [p, b] A0 (l.map I)) := hide (HVL2.out.kept hk3 (by simp))
        have hbl : (bytesOf 1 l).length ≤ 65536 := by rw [bytesOf_length]; omega
        clear hn3 hk3 H2 HVL2
        go_wp2_with fail
        refine (from_at A3 c3 (bytesOf 1 l) _ (N3.out.vals (S := []) (by simp)) N3.out.nil0 hbl).mono ?_
        rintro e w4 ⟨p4, b4, c4, A4, rfl, hp4, hb4, hb41, hr4, hk4⟩
        have K4 := hide hk4
        have R4 := hide hr4
        have H4 := hide (H3.out.kept hk4 (by simp) (by simp))
        have HVL4 : Hid (Vals w4 [p, b] A0 (l.map I)) := hide (HVL3.out.kept hk4 (by simp))
        have hs2 := K2.out.size
        have hs3 := K3.out.size
        clear hr4 hk4 H3
        go_wp2_with fail
        refine (left_eq p b cap A _ 0 _ H4.out (by simp [bytesOf_length])).mono ?_
        rintro e w5 ⟨rfl, d5, rfl⟩
        go_wp2_with fail
        have K14 : Hid (Kept [p, b] w1 w4) := hide ((K2.out.trans K3.out (by simp)).trans K4.out (by simp))
        have KB : Hid (Below w.heap.size w w4) := hide ((K1.out.trans K14.out (by simp; omega)).below (by simp))
        go_loopw [12] (fun i wr => ∃ j : Nat, j ≤ l.length ∧ i = .int .i64 j ∧ RowAt wr p4 b4 c4 A4 ⟨bytesOf 1 l, 1 * j⟩ ∧ Kept [p4] w4 wr) (fun i wr => l.length - (intOf i).toNat)
        case atStart => exact ⟨0, by omega, rfl, R4.out, (Kept.refl _ w4).drewN d5⟩
        case round =>
          obtain ⟨j, hj, rfl, hra, hka⟩ := hrel
          have RA := hide hra
          have KA := hide hka
          clear hra hka
          by_cases hlt : j < l.length
          · obtain ⟨ad, rfl, hnad, _⟩ := HVL4.out j (I (l.getD j 0)) (getI l j hlt)
            have hfz := hfit.out (l.getD j 0) (by rw [List.getD_eq_getElem?_getD, List.getElem?_eq_getElem hlt]; exact List.getElem_mem hlt)
            go_wp2_with fail
            refine (row.get_at p4 b4 c4 A4 _ 1 _ RA.out).mono ?_
            rintro e w6 ⟨rfl, hr6, hk6⟩
            rw [show Row.get ⟨bytesOf 1 l, 1 * j⟩ 1 = _ from get_one 1 (by omega) l j hlt hfz] at *
            have R6 := hide hr6
            have K6 := hide (KA.out.trans hk6 (fun _ h => .inl h))
            have hcz : w6.cell? (ad.add j) = some (I (l.getD j 0)) := by
              obtain ⟨ad', h', _, hc'⟩ := HVL4.out j (I (l.getD j 0)) (getI l j hlt)
              injection h' with h'
              subst h'
              obtain ⟨ad3, h3', _, hc3⟩ := HVL3.out j (I (l.getD j 0)) (getI l j hlt)
              injection h3' with h3'
              subst h3'
              exact K6.out.cell hc' (by rw [block_of_add]; have := block_lt_of_cell hc3; rw [block_of_add] at this; simp; omega)
            generalize l.getD j 0 = z at *
            unfold I at hcz
            clear hr6 hk6 hfz
            go_wp2
            go_roundw
            case rel => exact ⟨j + 1, by omega, by go_num, R6.out, K6.out⟩
            case measure => simp [intOf]; omega
          · obtain rfl : j = l.length := by omega
            go_wp2_with fail
            refine (row.get_at p4 b4 c4 A4 _ 1 _ RA.out).mono ?_
            rintro e w6 ⟨rfl, hr6, hk6⟩
            rw [show Row.get ⟨bytesOf 1 l, 1 * l.length⟩ 1 = _ from get_end 1 (by omega) l] at *
            have KB6 := hide (KB.out.trans ((KA.out.trans hk6 (fun _ h => .inl h)).below_of (by simp; omega)))
            go_wp2_with (go_at_call 7; refine (awake_any _).mono ?_; rintro e w7 ⟨rfl, hb7⟩)
            go_ret
            exact ⟨rfl, below_then KB6.out hb7⟩

      · go_wp2_with fail
        go_loopw [10] (fun i wr => ∃ j : Nat, j ≤ l.length ∧ i = .int .i64 j ∧ RowAt wr p b cap A (rowOf 1 (1 * l.length) (l.take j)) ∧ Kept [p, b] w1 wr) (fun i wr => l.length - (intOf i).toNat)
        case atStart => exact ⟨0, by omega, rfl, by simpa using H1.out, Kept.refl _ _⟩
        case round =>
          obtain ⟨j, hj, rfl, hra, hka⟩ := hrel
          by_cases hlt : j < l.length
          · have hfz := hide (hfit.out (l.getD j 0) (by rw [List.getD_eq_getElem?_getD, List.getElem?_eq_getElem hlt]; exact List.getElem_mem hlt))
            obtain ⟨ad, rfl, _, hcz⟩ := HVL1.out.kept hka (fun _ h => h) j (I (l.getD j 0)) (getI l j hlt)
            have htk : Hid (l.take (j + 1) = l.take j ++ [l.getD j 0]) := hide (by rw [List.take_succ_eq_append_getElem hlt, List.getD_eq_getElem?_getD, List.getElem?_eq_getElem hlt]; rfl)
            generalize l.getD j 0 = z at *
            unfold I at hcz
            have RA := hide hra
            have KA := hide hka
            have hsa := hka.size
            clear hra hka
            go_wp2_with fail
            refine (put_at p b cap A _ 1 _ [z] 1 _ (RA.out.kept (S := []) ((Kept.refl _ _).alloc _) (by simp) (by simp)) (vals_one wr [p, b] z _ (by simp; omega)) (by simp)).mono ?_
            rintro e w2 ⟨rfl, h2, hk2⟩
            have hmul : 1 * (j + 1) ≤ 1 * l.length := Nat.mul_le_mul_left _ hlt
            rw [show Row.put (rowOf 1 (1 * l.length) (l.take j)) 1 [z] = _ from rowOf_put 1 _ (by omega) (l.take j) [z] (by simp; omega) (by simpa using hfz.out)] at *
            have H2 := hide h2
            have K2 := hide (KA.out.trans (((Kept.refl [p, b] wr).alloc _).trans hk2 (fun _ h => .inl h)) (fun _ h => .inl h))
            clear h2 hk2
            go_wp2
            go_roundw
            case rel => exact ⟨j + 1, by omega, by go_num, by rw [htk.out]; exact H2.out, K2.out⟩
            case measure => simp [intOf]; omega
          · obtain rfl : j = l.length := by omega
            rw [List.take_length] at hra
            have H2 := hide hra
            have K2 := hide hka
            have HVL2 : Hid (Vals wr [p, b] A0 (l.map I)) := hide (HVL1.out.kept hka (fun _ h => h))
            clear hra hka
            go_wp2_with fail
            refine (bytes_at p b cap A _ _ H2.out).mono ?_
            rintro e w3 ⟨A3, c3, rfl, hn3, hk3⟩
            rw [rowOf_full] at *
            have N3 := hide hn3
            have K3 := hide hk3
            have H3 := hide (H2.out.kept hk3 (by simp) (by simp))
            have HVL3 : Hid (Vals w3 [p, b] A0 (l.map I)) := hide (HVL2.out.kept hk3 (by simp))
            have hbl : (bytesOf 1 l).length ≤ 65536 := by rw [bytesOf_length]; omega
            clear hn3 hk3 H2 HVL2
            go_wp2_with fail
            refine (from_at A3 c3 (bytesOf 1 l) _ (N3.out.vals (S := []) (by simp)) N3.out.nil0 hbl).mono ?_
            rintro e w4 ⟨p4, b4, c4, A4, rfl, hp4, hb4, hb41, hr4, hk4⟩
            have K4 := hide hk4
            have R4 := hide hr4
            have H4 := hide (H3.out.kept hk4 (by simp) (by simp))
            have HVL4 : Hid (Vals w4 [p, b] A0 (l.map I)) := hide (HVL3.out.kept hk4 (by simp))
            have hs2 := K2.out.size
            have hs3 := K3.out.size
            clear hr4 hk4 H3
            go_wp2_with fail
            refine (left_eq p b cap A _ 0 _ H4.out (by simp [bytesOf_length])).mono ?_
            rintro e w5 ⟨rfl, d5, rfl⟩
            go_wp2_with fail
            have K14 : Hid (Kept [p, b] w1 w4) := hide ((K2.out.trans K3.out (by simp)).trans K4.out (by simp))
            have KB : Hid (Below w.heap.size w w4) := hide ((K1.out.trans K14.out (by simp; omega)).below (by simp))
            go_loopw [12] (fun i wr => ∃ j : Nat, j ≤ l.length ∧ i = .int .i64 j ∧ RowAt wr p4 b4 c4 A4 ⟨bytesOf 1 l, 1 * j⟩ ∧ Kept [p4] w4 wr) (fun i wr => l.length - (intOf i).toNat)
            case atStart => exact ⟨0, by omega, rfl, R4.out, (Kept.refl _ w4).drewN d5⟩
            case round =>
              obtain ⟨j, hj, rfl, hra, hka⟩ := hrel
              have RA := hide hra
              have KA := hide hka
              clear hra hka
              by_cases hlt : j < l.length
              · obtain ⟨ad, rfl, hnad, _⟩ := HVL4.out j (I (l.getD j 0)) (getI l j hlt)
                have hfz := hfit.out (l.getD j 0) (by rw [List.getD_eq_getElem?_getD, List.getElem?_eq_getElem hlt]; exact List.getElem_mem hlt)
                go_wp2_with fail
                refine (row.get_at p4 b4 c4 A4 _ 1 _ RA.out).mono ?_
                rintro e w6 ⟨rfl, hr6, hk6⟩
                rw [show Row.get ⟨bytesOf 1 l, 1 * j⟩ 1 = _ from get_one 1 (by omega) l j hlt hfz] at *
                have R6 := hide hr6
                have K6 := hide (KA.out.trans hk6 (fun _ h => .inl h))
                have hcz : w6.cell? (ad.add j) = some (I (l.getD j 0)) := by
                  obtain ⟨ad', h', _, hc'⟩ := HVL4.out j (I (l.getD j 0)) (getI l j hlt)
                  injection h' with h'
                  subst h'
                  obtain ⟨ad3, h3', _, hc3⟩ := HVL3.out j (I (l.getD j 0)) (getI l j hlt)
                  injection h3' with h3'
                  subst h3'
                  exact K6.out.cell hc' (by rw [block_of_add]; have := block_lt_of_cell hc3; rw [block_of_add] at this; simp; omega)
                generalize l.getD j 0 = z at *
                unfold I at hcz
                clear hr6 hk6 hfz
                go_wp2
                go_roundw
                case rel => exact ⟨j + 1, by omega, by go_num, R6.out, K6.out⟩
                case measure => simp [intOf]; omega
              · obtain rfl : j = l.length := by omega
                go_wp2_with fail
                refine (row.get_at p4 b4 c4 A4 _ 1 _ RA.out).mono ?_
                rintro e w6 ⟨rfl, hr6, hk6⟩
                rw [show Row.get ⟨bytesOf 1 l, 1 * l.length⟩ 1 = _ from get_end 1 (by omega) l] at *
                have KB6 := hide (KB.out.trans ((KA.out.trans hk6 (fun _ h => .inl h)).below_of (by simp; omega)))
                go_wp2_with (go_at_call 7; refine (awake_any _).mono ?_; rintro e w7 ⟨rfl, hb7⟩)
                go_ret
                exact ⟨rfl, below_then KB6.out hb7⟩


set_option maxRecDepth 100000 in
set_option maxHeartbeats 2000000 in
theorem walk_yes2 (N0 : Option Addr) (c0 : Nat) (nums : List Int) (one : Bool) (w : World) (hv : Vals w [] N0 (nums.map I)) (hn : nums.length ≤ 100) :
    Calls Try.prog 4 #[.slice N0 nums.length c0, .int .i64 2, .bool one] w fun e w' => e = .returned (.bool true) ∧ Below w.heap.size w w' := by
  have HV := hide hv
  clear hv
  go_enter Try.func4, Try.ntmps4
  go_wp2_with fail
  go_loopw [7, 8] (fun v i wr => ∃ l : List Int, l.length ≤ nums.length ∧ i = .int .i64 l.length ∧ Hid (∀ n ∈ l, fitsW 2 n = true) ∧ wr.ownsRow w.heap.size 3 1 v l.length (l.map I) ∧ Kept [] w wr) (fun v i wr => nums.length - (intOf i).toNat)
  case atStart => exact ⟨[], by simp, rfl, hide (by simp), World.ownsRow_nil _ _ _ _, Kept.refl _ _⟩
  case round =>
    obtain ⟨l, hl, rfl, hfit, hown, hkw⟩ := hrel
    by_cases hlt : l.length < nums.length
    · obtain ⟨ad, rfl, _, hc⟩ := (HV.out.kept hkw (by simp)) l.length (I (nums.getD l.length 0)) (getI _ _ hlt)
      generalize nums.getD l.length 0 = z at hc
      unfold I at hc
      have HO := hide hown
      have HKW := hide hkw
      clear hown hkw
      have hwa : IntKind.i64.wrap 16 = 16 := by decide
      have hwb : IntKind.i64.wrap 65536 = 65536 := by decide
      go_wp2
      go_region_law (first
        | (refine step_append_vals rfl (.tmp 39) (.tmp 48) 28 rfl w.heap.size 3 (.int .i64 0) 1 8 Try.underlying28 int_info rfl (by omega) u7 l.length (l.map I) rfl (HO.out.alloc _) [] _ 1 1 ([(k : Int)].map I) rfl (by simp) (vals_one _ [] _ _ (by simp)) (oneCell_I [(k : Int)]) (by simp only [maxLen]; omega) (by omega) (by have := HKW.out.size; simp; omega) ?_; intro v1 w1 hown1 hk1 hat1)
        | (go_simp; go_at_call 23; refine (round_ex _ _ _ (by omega) (by omega)).mono ?_; rintro e w' ⟨k, hk, rfl, rfl⟩))
      all_goals
        have K1 := kept_mid HO.out (Nat.le_refl _) ((HKW.out.alloc _).drew) hk1
        have HF : Hid (∀ n ∈ l ++ [(k : Int)], fitsW 2 n = true) := hide (fun n hn => by
          rcases List.mem_append.1 hn with h | h
          · exact hfit.out n h
          · have : n = (k : Int) := by simpa using h
            subst this
            simp [fitsW]; omega)
        go_wp2
        go_roundw
        case rel => exact ⟨l ++ [(k : Int)], by simp; omega, by simp, HF, by simpa using hown1, K1⟩
        case measure => simp [intOf]; omega
    · obtain ⟨A0, c1, rfl, hnc, hAn, hV, _⟩ := own_slice hown
      have HVL := hide hV
      have HKW := hide hkw
      have hll : Hid (l.length = nums.length) := hide (by omega)
      have hl100 : l.length ≤ 100 := by omega
      clear hV hown hkw hl
      go_wp2_with fail
      refine (new_at _ _ (by omega) (by omega)).mono ?_
      rintro e w1 ⟨p, b, cap, A, rfl, hp, hb, hb1, hr, hk1⟩
      rw [show ((2 * (l.length : Int))).toNat = 2 * l.length by omega, ← rowOf_nil 2 (2 * l.length)] at hr
      have HVL1 : Hid (Vals w1 [p, b] A0 (l.map I)) := hide ((HVL.out [p, b] (by simp; omega)).kept hk1 (by simp))
      have hsw := HKW.out.size
      have K1 := hide (HKW.out.trans hk1 (by simp))
      have H1 := hide hr
      have hp1 := hr.lt
      clear hr hk1 HVL
      rcases one with _ | _
      · go_wp2_with fail
        refine (put_len p b cap A _ 2 A0 l _ c1 _ rfl H1.out HVL1.out (by omega)).mono ?_
        rintro e w2 ⟨rfl, h2, hk2⟩
        rw [show Row.put (rowOf 2 (2 * l.length) []) 2 l = _ from rowOf_put 2 _ (by omega) [] l (by simp) hfit.out] at *
        have H2 := hide h2
        have K2 := hide hk2
        have HVL2 : Hid (Vals w2 [p, b] A0 (l.map I)) := hide (HVL1.out.kept hk2 (fun _ h => h))
        clear h2 hk2
        rw [List.nil_append] at H2
        go_wp2_with fail
        refine (bytes_at p b cap A _ _ H2.out).mono ?_
        rintro e w3 ⟨A3, c3, rfl, hn3, hk3⟩
        rw [rowOf_full] at *
        have N3 := hide hn3
        have K3 := hide hk3
        have H3 := hide (H2.out.kept hk3 (by simp) (by simp))
        have HVL3 : Hid (Vals w3 [p, b] A0 (l.map I)) := hide (HVL2.out.kept hk3 (by simp))
        have hbl : (bytesOf 2 l).length ≤ 65536 := by rw [bytesOf_length]; omega
        clear hn3 hk3 H2 HVL2
        go_wp2_with fail
        refine (from_at A3 c3 (bytesOf 2 l) _ (N3.out.vals (S := []) (by simp)) N3.out.nil0 hbl).mono ?_
        rintro e w4 ⟨p4, b4, c4, A4, rfl, hp4, hb4, hb41, hr4, hk4⟩
        have K4 := hide hk4
        have R4 := hide hr4
        have H4 := hide (H3.out.kept hk4 (by simp) (by simp))
        have HVL4 : Hid (Vals w4 [p, b] A0 (l.map I)) := hide (HVL3.out.kept hk4 (by simp))
        have hs2 := K2.out.size
        have hs3 := K3.out.size
        clear hr4 hk4 H3
        go_wp2_with fail
        refine (left_eq p b cap A _ 0 _ H4.out (by simp [bytesOf_length])).mono ?_
        rintro e w5 ⟨rfl, d5, rfl⟩
        go_wp2_with fail
        have K14 : Hid (Kept [p, b] w1 w4) := hide ((K2.out.trans K3.out (by simp)).trans K4.out (by simp))
        have KB : Hid (Below w.heap.size w w4) := hide ((K1.out.trans K14.out (by simp; omega)).below (by simp))
        go_loopw [12] (fun i wr => ∃ j : Nat, j ≤ l.length ∧ i = .int .i64 j ∧ RowAt wr p4 b4 c4 A4 ⟨bytesOf 2 l, 2 * j⟩ ∧ Kept [p4] w4 wr) (fun i wr => l.length - (intOf i).toNat)
        case atStart => exact ⟨0, by omega, rfl, R4.out, (Kept.refl _ w4).drewN d5⟩
        case round =>
          obtain ⟨j, hj, rfl, hra, hka⟩ := hrel
          have RA := hide hra
          have KA := hide hka
          clear hra hka
          by_cases hlt : j < l.length
          · obtain ⟨ad, rfl, hnad, _⟩ := HVL4.out j (I (l.getD j 0)) (getI l j hlt)
            have hfz := hfit.out (l.getD j 0) (by rw [List.getD_eq_getElem?_getD, List.getElem?_eq_getElem hlt]; exact List.getElem_mem hlt)
            go_wp2_with fail
            refine (row.get_at p4 b4 c4 A4 _ 2 _ RA.out).mono ?_
            rintro e w6 ⟨rfl, hr6, hk6⟩
            rw [show Row.get ⟨bytesOf 2 l, 2 * j⟩ 2 = _ from get_one 2 (by omega) l j hlt hfz] at *
            have R6 := hide hr6
            have K6 := hide (KA.out.trans hk6 (fun _ h => .inl h))
            have hcz : w6.cell? (ad.add j) = some (I (l.getD j 0)) := by
              obtain ⟨ad', h', _, hc'⟩ := HVL4.out j (I (l.getD j 0)) (getI l j hlt)
              injection h' with h'
              subst h'
              obtain ⟨ad3, h3', _, hc3⟩ := HVL3.out j (I (l.getD j 0)) (getI l j hlt)
              injection h3' with h3'
              subst h3'
              exact K6.out.cell hc' (by rw [block_of_add]; have := block_lt_of_cell hc3; rw [block_of_add] at this; simp; omega)
            generalize l.getD j 0 = z at *
            unfold I at hcz
            clear hr6 hk6 hfz
            go_wp2
            go_roundw
            case rel => exact ⟨j + 1, by omega, by go_num, R6.out, K6.out⟩
            case measure => simp [intOf]; omega
          · obtain rfl : j = l.length := by omega
            go_wp2_with fail
            refine (row.get_at p4 b4 c4 A4 _ 2 _ RA.out).mono ?_
            rintro e w6 ⟨rfl, hr6, hk6⟩
            rw [show Row.get ⟨bytesOf 2 l, 2 * l.length⟩ 2 = _ from get_end 2 (by omega) l] at *
            have KB6 := hide (KB.out.trans ((KA.out.trans hk6 (fun _ h => .inl h)).below_of (by simp; omega)))
            go_wp2_with (go_at_call 7; refine (awake_any _).mono ?_; rintro e w7 ⟨rfl, hb7⟩)
            go_ret
            exact ⟨rfl, below_then KB6.out hb7⟩

      · go_wp2_with fail
        go_loopw [10] (fun i wr => ∃ j : Nat, j ≤ l.length ∧ i = .int .i64 j ∧ RowAt wr p b cap A (rowOf 2 (2 * l.length) (l.take j)) ∧ Kept [p, b] w1 wr) (fun i wr => l.length - (intOf i).toNat)
        case atStart => exact ⟨0, by omega, rfl, by simpa using H1.out, Kept.refl _ _⟩
        case round =>
          obtain ⟨j, hj, rfl, hra, hka⟩ := hrel
          by_cases hlt : j < l.length
          · have hfz := hide (hfit.out (l.getD j 0) (by rw [List.getD_eq_getElem?_getD, List.getElem?_eq_getElem hlt]; exact List.getElem_mem hlt))
            obtain ⟨ad, rfl, _, hcz⟩ := HVL1.out.kept hka (fun _ h => h) j (I (l.getD j 0)) (getI l j hlt)
            have htk : Hid (l.take (j + 1) = l.take j ++ [l.getD j 0]) := hide (by rw [List.take_succ_eq_append_getElem hlt, List.getD_eq_getElem?_getD, List.getElem?_eq_getElem hlt]; rfl)
            generalize l.getD j 0 = z at *
            unfold I at hcz
            have RA := hide hra
            have KA := hide hka
            have hsa := hka.size
            clear hra hka
            go_wp2_with fail
            refine (put_at p b cap A _ 2 _ [z] 1 _ (RA.out.kept (S := []) ((Kept.refl _ _).alloc _) (by simp) (by simp)) (vals_one wr [p, b] z _ (by simp; omega)) (by simp)).mono ?_
            rintro e w2 ⟨rfl, h2, hk2⟩
            have hmul : 2 * (j + 1) ≤ 2 * l.length := Nat.mul_le_mul_left _ hlt
            rw [show Row.put (rowOf 2 (2 * l.length) (l.take j)) 2 [z] = _ from rowOf_put 2 _ (by omega) (l.take j) [z] (by simp; omega) (by simpa using hfz.out)] at *
            have H2 := hide h2
            have K2 := hide (KA.out.trans (((Kept.refl [p, b] wr).alloc _).trans hk2 (fun _ h => .inl h)) (fun _ h => .inl h))
            clear h2 hk2
            go_wp2
            go_roundw
            case rel => exact ⟨j + 1, by omega, by go_num, by rw [htk.out]; exact H2.out, K2.out⟩
            case measure => simp [intOf]; omega
          · obtain rfl : j = l.length := by omega
            rw [List.take_length] at hra
            have H2 := hide hra
            have K2 := hide hka
            have HVL2 : Hid (Vals wr [p, b] A0 (l.map I)) := hide (HVL1.out.kept hka (fun _ h => h))
            clear hra hka
            go_wp2_with fail
            refine (bytes_at p b cap A _ _ H2.out).mono ?_
            rintro e w3 ⟨A3, c3, rfl, hn3, hk3⟩
            rw [rowOf_full] at *
            have N3 := hide hn3
            have K3 := hide hk3
            have H3 := hide (H2.out.kept hk3 (by simp) (by simp))
            have HVL3 : Hid (Vals w3 [p, b] A0 (l.map I)) := hide (HVL2.out.kept hk3 (by simp))
            have hbl : (bytesOf 2 l).length ≤ 65536 := by rw [bytesOf_length]; omega
            clear hn3 hk3 H2 HVL2
            go_wp2_with fail
            refine (from_at A3 c3 (bytesOf 2 l) _ (N3.out.vals (S := []) (by simp)) N3.out.nil0 hbl).mono ?_
            rintro e w4 ⟨p4, b4, c4, A4, rfl, hp4, hb4, hb41, hr4, hk4⟩
            have K4 := hide hk4
            have R4 := hide hr4
            have H4 := hide (H3.out.kept hk4 (by simp) (by simp))
            have HVL4 : Hid (Vals w4 [p, b] A0 (l.map I)) := hide (HVL3.out.kept hk4 (by simp))
            have hs2 := K2.out.size
            have hs3 := K3.out.size
            clear hr4 hk4 H3
            go_wp2_with fail
            refine (left_eq p b cap A _ 0 _ H4.out (by simp [bytesOf_length])).mono ?_
            rintro e w5 ⟨rfl, d5, rfl⟩
            go_wp2_with fail
            have K14 : Hid (Kept [p, b] w1 w4) := hide ((K2.out.trans K3.out (by simp)).trans K4.out (by simp))
            have KB : Hid (Below w.heap.size w w4) := hide ((K1.out.trans K14.out (by simp; omega)).below (by simp))
            go_loopw [12] (fun i wr => ∃ j : Nat, j ≤ l.length ∧ i = .int .i64 j ∧ RowAt wr p4 b4 c4 A4 ⟨bytesOf 2 l, 2 * j⟩ ∧ Kept [p4] w4 wr) (fun i wr => l.length - (intOf i).toNat)
            case atStart => exact ⟨0, by omega, rfl, R4.out, (Kept.refl _ w4).drewN d5⟩
            case round =>
              obtain ⟨j, hj, rfl, hra, hka⟩ := hrel
              have RA := hide hra
              have KA := hide hka
              clear hra hka
              by_cases hlt : j < l.length
              · obtain ⟨ad, rfl, hnad, _⟩ := HVL4.out j (I (l.getD j 0)) (getI l j hlt)
                have hfz := hfit.out (l.getD j 0) (by rw [List.getD_eq_getElem?_getD, List.getElem?_eq_getElem hlt]; exact List.getElem_mem hlt)
                go_wp2_with fail
                refine (row.get_at p4 b4 c4 A4 _ 2 _ RA.out).mono ?_
                rintro e w6 ⟨rfl, hr6, hk6⟩
                rw [show Row.get ⟨bytesOf 2 l, 2 * j⟩ 2 = _ from get_one 2 (by omega) l j hlt hfz] at *
                have R6 := hide hr6
                have K6 := hide (KA.out.trans hk6 (fun _ h => .inl h))
                have hcz : w6.cell? (ad.add j) = some (I (l.getD j 0)) := by
                  obtain ⟨ad', h', _, hc'⟩ := HVL4.out j (I (l.getD j 0)) (getI l j hlt)
                  injection h' with h'
                  subst h'
                  obtain ⟨ad3, h3', _, hc3⟩ := HVL3.out j (I (l.getD j 0)) (getI l j hlt)
                  injection h3' with h3'
                  subst h3'
                  exact K6.out.cell hc' (by rw [block_of_add]; have := block_lt_of_cell hc3; rw [block_of_add] at this; simp; omega)
                generalize l.getD j 0 = z at *
                unfold I at hcz
                clear hr6 hk6 hfz
                go_wp2
                go_roundw
                case rel => exact ⟨j + 1, by omega, by go_num, R6.out, K6.out⟩
                case measure => simp [intOf]; omega
              · obtain rfl : j = l.length := by omega
                go_wp2_with fail
                refine (row.get_at p4 b4 c4 A4 _ 2 _ RA.out).mono ?_
                rintro e w6 ⟨rfl, hr6, hk6⟩
                rw [show Row.get ⟨bytesOf 2 l, 2 * l.length⟩ 2 = _ from get_end 2 (by omega) l] at *
                have KB6 := hide (KB.out.trans ((KA.out.trans hk6 (fun _ h => .inl h)).below_of (by simp; omega)))
                go_wp2_with (go_at_call 7; refine (awake_any _).mono ?_; rintro e w7 ⟨rfl, hb7⟩)
                go_ret
                exact ⟨rfl, below_then KB6.out hb7⟩


set_option maxRecDepth 100000 in
set_option maxHeartbeats 2000000 in
theorem walk_yes4 (N0 : Option Addr) (c0 : Nat) (nums : List Int) (one : Bool) (w : World) (hv : Vals w [] N0 (nums.map I)) (hn : nums.length ≤ 100) :
    Calls Try.prog 4 #[.slice N0 nums.length c0, .int .i64 4, .bool one] w fun e w' => e = .returned (.bool true) ∧ Below w.heap.size w w' := by
  have HV := hide hv
  clear hv
  go_enter Try.func4, Try.ntmps4
  go_wp2_with fail
  go_loopw [7, 8] (fun v i wr => ∃ l : List Int, l.length ≤ nums.length ∧ i = .int .i64 l.length ∧ Hid (∀ n ∈ l, fitsW 4 n = true) ∧ wr.ownsRow w.heap.size 3 1 v l.length (l.map I) ∧ Kept [] w wr) (fun v i wr => nums.length - (intOf i).toNat)
  case atStart => exact ⟨[], by simp, rfl, hide (by simp), World.ownsRow_nil _ _ _ _, Kept.refl _ _⟩
  case round =>
    obtain ⟨l, hl, rfl, hfit, hown, hkw⟩ := hrel
    by_cases hlt : l.length < nums.length
    · obtain ⟨ad, rfl, _, hc⟩ := (HV.out.kept hkw (by simp)) l.length (I (nums.getD l.length 0)) (getI _ _ hlt)
      generalize nums.getD l.length 0 = z at hc
      unfold I at hc
      have HO := hide hown
      have HKW := hide hkw
      clear hown hkw
      have hwa : IntKind.i64.wrap 32 = 32 := by decide
      have hwb : IntKind.i64.wrap 4294967296 = 4294967296 := by decide
      go_wp2
      go_region_law (first
        | (refine step_append_vals rfl (.tmp 39) (.tmp 48) 28 rfl w.heap.size 3 (.int .i64 0) 1 8 Try.underlying28 int_info rfl (by omega) u7 l.length (l.map I) rfl (HO.out.alloc _) [] _ 1 1 ([(k : Int)].map I) rfl (by simp) (vals_one _ [] _ _ (by simp)) (oneCell_I [(k : Int)]) (by simp only [maxLen]; omega) (by omega) (by have := HKW.out.size; simp; omega) ?_; intro v1 w1 hown1 hk1 hat1)
        | (go_simp; go_at_call 23; refine (round_ex _ _ _ (by omega) (by omega)).mono ?_; rintro e w' ⟨k, hk, rfl, rfl⟩))
      all_goals
        have K1 := kept_mid HO.out (Nat.le_refl _) ((HKW.out.alloc _).drew) hk1
        have HF : Hid (∀ n ∈ l ++ [(k : Int)], fitsW 4 n = true) := hide (fun n hn => by
          rcases List.mem_append.1 hn with h | h
          · exact hfit.out n h
          · have : n = (k : Int) := by simpa using h
            subst this
            simp [fitsW]; omega)
        go_wp2
        go_roundw
        case rel => exact ⟨l ++ [(k : Int)], by simp; omega, by simp, HF, by simpa using hown1, K1⟩
        case measure => simp [intOf]; omega
    · obtain ⟨A0, c1, rfl, hnc, hAn, hV, _⟩ := own_slice hown
      have HVL := hide hV
      have HKW := hide hkw
      have hll : Hid (l.length = nums.length) := hide (by omega)
      have hl100 : l.length ≤ 100 := by omega
      clear hV hown hkw hl
      go_wp2_with fail
      refine (new_at _ _ (by omega) (by omega)).mono ?_
      rintro e w1 ⟨p, b, cap, A, rfl, hp, hb, hb1, hr, hk1⟩
      rw [show ((4 * (l.length : Int))).toNat = 4 * l.length by omega, ← rowOf_nil 4 (4 * l.length)] at hr
      have HVL1 : Hid (Vals w1 [p, b] A0 (l.map I)) := hide ((HVL.out [p, b] (by simp; omega)).kept hk1 (by simp))
      have hsw := HKW.out.size
      have K1 := hide (HKW.out.trans hk1 (by simp))
      have H1 := hide hr
      have hp1 := hr.lt
      clear hr hk1 HVL
      rcases one with _ | _
      · go_wp2_with fail
        refine (put_len p b cap A _ 4 A0 l _ c1 _ rfl H1.out HVL1.out (by omega)).mono ?_
        rintro e w2 ⟨rfl, h2, hk2⟩
        rw [show Row.put (rowOf 4 (4 * l.length) []) 4 l = _ from rowOf_put 4 _ (by omega) [] l (by simp) hfit.out] at *
        have H2 := hide h2
        have K2 := hide hk2
        have HVL2 : Hid (Vals w2 [p, b] A0 (l.map I)) := hide (HVL1.out.kept hk2 (fun _ h => h))
        clear h2 hk2
        rw [List.nil_append] at H2
        go_wp2_with fail
        refine (bytes_at p b cap A _ _ H2.out).mono ?_
        rintro e w3 ⟨A3, c3, rfl, hn3, hk3⟩
        rw [rowOf_full] at *
        have N3 := hide hn3
        have K3 := hide hk3
        have H3 := hide (H2.out.kept hk3 (by simp) (by simp))
        have HVL3 : Hid (Vals w3 [p, b] A0 (l.map I)) := hide (HVL2.out.kept hk3 (by simp))
        have hbl : (bytesOf 4 l).length ≤ 65536 := by rw [bytesOf_length]; omega
        clear hn3 hk3 H2 HVL2
        go_wp2_with fail
        refine (from_at A3 c3 (bytesOf 4 l) _ (N3.out.vals (S := []) (by simp)) N3.out.nil0 hbl).mono ?_
        rintro e w4 ⟨p4, b4, c4, A4, rfl, hp4, hb4, hb41, hr4, hk4⟩
        have K4 := hide hk4
        have R4 := hide hr4
        have H4 := hide (H3.out.kept hk4 (by simp) (by simp))
        have HVL4 : Hid (Vals w4 [p, b] A0 (l.map I)) := hide (HVL3.out.kept hk4 (by simp))
        have hs2 := K2.out.size
        have hs3 := K3.out.size
        clear hr4 hk4 H3
        go_wp2_with fail
        refine (left_eq p b cap A _ 0 _ H4.out (by simp [bytesOf_length])).mono ?_
        rintro e w5 ⟨rfl, d5, rfl⟩
        go_wp2_with fail
        have K14 : Hid (Kept [p, b] w1 w4) := hide ((K2.out.trans K3.out (by simp)).trans K4.out (by simp))
        have KB : Hid (Below w.heap.size w w4) := hide ((K1.out.trans K14.out (by simp; omega)).below (by simp))
        go_loopw [12] (fun i wr => ∃ j : Nat, j ≤ l.length ∧ i = .int .i64 j ∧ RowAt wr p4 b4 c4 A4 ⟨bytesOf 4 l, 4 * j⟩ ∧ Kept [p4] w4 wr) (fun i wr => l.length - (intOf i).toNat)
        case atStart => exact ⟨0, by omega, rfl, R4.out, (Kept.refl _ w4).drewN d5⟩
        case round =>
          obtain ⟨j, hj, rfl, hra, hka⟩ := hrel
          have RA := hide hra
          have KA := hide hka
          clear hra hka
          by_cases hlt : j < l.length
          · obtain ⟨ad, rfl, hnad, _⟩ := HVL4.out j (I (l.getD j 0)) (getI l j hlt)
            have hfz := hfit.out (l.getD j 0) (by rw [List.getD_eq_getElem?_getD, List.getElem?_eq_getElem hlt]; exact List.getElem_mem hlt)
            go_wp2_with fail
            refine (row.get_at p4 b4 c4 A4 _ 4 _ RA.out).mono ?_
            rintro e w6 ⟨rfl, hr6, hk6⟩
            rw [show Row.get ⟨bytesOf 4 l, 4 * j⟩ 4 = _ from get_one 4 (by omega) l j hlt hfz] at *
            have R6 := hide hr6
            have K6 := hide (KA.out.trans hk6 (fun _ h => .inl h))
            have hcz : w6.cell? (ad.add j) = some (I (l.getD j 0)) := by
              obtain ⟨ad', h', _, hc'⟩ := HVL4.out j (I (l.getD j 0)) (getI l j hlt)
              injection h' with h'
              subst h'
              obtain ⟨ad3, h3', _, hc3⟩ := HVL3.out j (I (l.getD j 0)) (getI l j hlt)
              injection h3' with h3'
              subst h3'
              exact K6.out.cell hc' (by rw [block_of_add]; have := block_lt_of_cell hc3; rw [block_of_add] at this; simp; omega)
            generalize l.getD j 0 = z at *
            unfold I at hcz
            clear hr6 hk6 hfz
            go_wp2
            go_roundw
            case rel => exact ⟨j + 1, by omega, by go_num, R6.out, K6.out⟩
            case measure => simp [intOf]; omega
          · obtain rfl : j = l.length := by omega
            go_wp2_with fail
            refine (row.get_at p4 b4 c4 A4 _ 4 _ RA.out).mono ?_
            rintro e w6 ⟨rfl, hr6, hk6⟩
            rw [show Row.get ⟨bytesOf 4 l, 4 * l.length⟩ 4 = _ from get_end 4 (by omega) l] at *
            have KB6 := hide (KB.out.trans ((KA.out.trans hk6 (fun _ h => .inl h)).below_of (by simp; omega)))
            go_wp2_with (go_at_call 7; refine (awake_any _).mono ?_; rintro e w7 ⟨rfl, hb7⟩)
            go_ret
            exact ⟨rfl, below_then KB6.out hb7⟩

      · go_wp2_with fail
        go_loopw [10] (fun i wr => ∃ j : Nat, j ≤ l.length ∧ i = .int .i64 j ∧ RowAt wr p b cap A (rowOf 4 (4 * l.length) (l.take j)) ∧ Kept [p, b] w1 wr) (fun i wr => l.length - (intOf i).toNat)
        case atStart => exact ⟨0, by omega, rfl, by simpa using H1.out, Kept.refl _ _⟩
        case round =>
          obtain ⟨j, hj, rfl, hra, hka⟩ := hrel
          by_cases hlt : j < l.length
          · have hfz := hide (hfit.out (l.getD j 0) (by rw [List.getD_eq_getElem?_getD, List.getElem?_eq_getElem hlt]; exact List.getElem_mem hlt))
            obtain ⟨ad, rfl, _, hcz⟩ := HVL1.out.kept hka (fun _ h => h) j (I (l.getD j 0)) (getI l j hlt)
            have htk : Hid (l.take (j + 1) = l.take j ++ [l.getD j 0]) := hide (by rw [List.take_succ_eq_append_getElem hlt, List.getD_eq_getElem?_getD, List.getElem?_eq_getElem hlt]; rfl)
            generalize l.getD j 0 = z at *
            unfold I at hcz
            have RA := hide hra
            have KA := hide hka
            have hsa := hka.size
            clear hra hka
            go_wp2_with fail
            refine (put_at p b cap A _ 4 _ [z] 1 _ (RA.out.kept (S := []) ((Kept.refl _ _).alloc _) (by simp) (by simp)) (vals_one wr [p, b] z _ (by simp; omega)) (by simp)).mono ?_
            rintro e w2 ⟨rfl, h2, hk2⟩
            have hmul : 4 * (j + 1) ≤ 4 * l.length := Nat.mul_le_mul_left _ hlt
            rw [show Row.put (rowOf 4 (4 * l.length) (l.take j)) 4 [z] = _ from rowOf_put 4 _ (by omega) (l.take j) [z] (by simp; omega) (by simpa using hfz.out)] at *
            have H2 := hide h2
            have K2 := hide (KA.out.trans (((Kept.refl [p, b] wr).alloc _).trans hk2 (fun _ h => .inl h)) (fun _ h => .inl h))
            clear h2 hk2
            go_wp2
            go_roundw
            case rel => exact ⟨j + 1, by omega, by go_num, by rw [htk.out]; exact H2.out, K2.out⟩
            case measure => simp [intOf]; omega
          · obtain rfl : j = l.length := by omega
            rw [List.take_length] at hra
            have H2 := hide hra
            have K2 := hide hka
            have HVL2 : Hid (Vals wr [p, b] A0 (l.map I)) := hide (HVL1.out.kept hka (fun _ h => h))
            clear hra hka
            go_wp2_with fail
            refine (bytes_at p b cap A _ _ H2.out).mono ?_
            rintro e w3 ⟨A3, c3, rfl, hn3, hk3⟩
            rw [rowOf_full] at *
            have N3 := hide hn3
            have K3 := hide hk3
            have H3 := hide (H2.out.kept hk3 (by simp) (by simp))
            have HVL3 : Hid (Vals w3 [p, b] A0 (l.map I)) := hide (HVL2.out.kept hk3 (by simp))
            have hbl : (bytesOf 4 l).length ≤ 65536 := by rw [bytesOf_length]; omega
            clear hn3 hk3 H2 HVL2
            go_wp2_with fail
            refine (from_at A3 c3 (bytesOf 4 l) _ (N3.out.vals (S := []) (by simp)) N3.out.nil0 hbl).mono ?_
            rintro e w4 ⟨p4, b4, c4, A4, rfl, hp4, hb4, hb41, hr4, hk4⟩
            have K4 := hide hk4
            have R4 := hide hr4
            have H4 := hide (H3.out.kept hk4 (by simp) (by simp))
            have HVL4 : Hid (Vals w4 [p, b] A0 (l.map I)) := hide (HVL3.out.kept hk4 (by simp))
            have hs2 := K2.out.size
            have hs3 := K3.out.size
            clear hr4 hk4 H3
            go_wp2_with fail
            refine (left_eq p b cap A _ 0 _ H4.out (by simp [bytesOf_length])).mono ?_
            rintro e w5 ⟨rfl, d5, rfl⟩
            go_wp2_with fail
            have K14 : Hid (Kept [p, b] w1 w4) := hide ((K2.out.trans K3.out (by simp)).trans K4.out (by simp))
            have KB : Hid (Below w.heap.size w w4) := hide ((K1.out.trans K14.out (by simp; omega)).below (by simp))
            go_loopw [12] (fun i wr => ∃ j : Nat, j ≤ l.length ∧ i = .int .i64 j ∧ RowAt wr p4 b4 c4 A4 ⟨bytesOf 4 l, 4 * j⟩ ∧ Kept [p4] w4 wr) (fun i wr => l.length - (intOf i).toNat)
            case atStart => exact ⟨0, by omega, rfl, R4.out, (Kept.refl _ w4).drewN d5⟩
            case round =>
              obtain ⟨j, hj, rfl, hra, hka⟩ := hrel
              have RA := hide hra
              have KA := hide hka
              clear hra hka
              by_cases hlt : j < l.length
              · obtain ⟨ad, rfl, hnad, _⟩ := HVL4.out j (I (l.getD j 0)) (getI l j hlt)
                have hfz := hfit.out (l.getD j 0) (by rw [List.getD_eq_getElem?_getD, List.getElem?_eq_getElem hlt]; exact List.getElem_mem hlt)
                go_wp2_with fail
                refine (row.get_at p4 b4 c4 A4 _ 4 _ RA.out).mono ?_
                rintro e w6 ⟨rfl, hr6, hk6⟩
                rw [show Row.get ⟨bytesOf 4 l, 4 * j⟩ 4 = _ from get_one 4 (by omega) l j hlt hfz] at *
                have R6 := hide hr6
                have K6 := hide (KA.out.trans hk6 (fun _ h => .inl h))
                have hcz : w6.cell? (ad.add j) = some (I (l.getD j 0)) := by
                  obtain ⟨ad', h', _, hc'⟩ := HVL4.out j (I (l.getD j 0)) (getI l j hlt)
                  injection h' with h'
                  subst h'
                  obtain ⟨ad3, h3', _, hc3⟩ := HVL3.out j (I (l.getD j 0)) (getI l j hlt)
                  injection h3' with h3'
                  subst h3'
                  exact K6.out.cell hc' (by rw [block_of_add]; have := block_lt_of_cell hc3; rw [block_of_add] at this; simp; omega)
                generalize l.getD j 0 = z at *
                unfold I at hcz
                clear hr6 hk6 hfz
                go_wp2
                go_roundw
                case rel => exact ⟨j + 1, by omega, by go_num, R6.out, K6.out⟩
                case measure => simp [intOf]; omega
              · obtain rfl : j = l.length := by omega
                go_wp2_with fail
                refine (row.get_at p4 b4 c4 A4 _ 4 _ RA.out).mono ?_
                rintro e w6 ⟨rfl, hr6, hk6⟩
                rw [show Row.get ⟨bytesOf 4 l, 4 * l.length⟩ 4 = _ from get_end 4 (by omega) l] at *
                have KB6 := hide (KB.out.trans ((KA.out.trans hk6 (fun _ h => .inl h)).below_of (by simp; omega)))
                go_wp2_with (go_at_call 7; refine (awake_any _).mono ?_; rintro e w7 ⟨rfl, hb7⟩)
                go_ret
                exact ⟨rfl, below_then KB6.out hb7⟩


set_option maxRecDepth 100000 in
set_option maxHeartbeats 1000000 in
theorem walk_long (N0 : Option Addr) (n0 c0 : Nat) (a1 : Int) (one : Bool) (w : World) (h : 100 < n0) :
    Calls Try.prog 4 #[.slice N0 n0 c0, .int .i64 a1, .bool one] w fun e w' => e = .returned (.bool true) ∧ Below w.heap.size w w' := by
  go_enter Try.func4, Try.ntmps4
  go_wp2_with (go_at_call 7; refine (awake_any _).mono ?_; rintro e w' ⟨rfl, hb⟩)
  go_ret
  exact ⟨rfl, hb⟩

set_option maxRecDepth 100000 in
set_option maxHeartbeats 1000000 in
theorem walk_no (N0 : Option Addr) (n0 c0 : Nat) (a1 : Int) (one : Bool) (w : World) (h : n0 ≤ 100) (h1 : ¬ a1 = 1) (h2 : ¬ a1 = 2) (h4 : ¬ a1 = 4) :
    Calls Try.prog 4 #[.slice N0 n0 c0, .int .i64 a1, .bool one] w fun e w' => e = .returned (.bool true) ∧ Below w.heap.size w w' := by
  have e1 : (a1 != 1) = true := by rw [bne_iff_ne]; exact h1
  have e2 : (a1 != 2) = true := by rw [bne_iff_ne]; exact h2
  have e4 : (a1 != 4) = true := by rw [bne_iff_ne]; exact h4
  go_enter Try.func4, Try.ntmps4
  go_wp2_with (go_at_call 7; refine (awake_any _).mono ?_; rintro e w' ⟨rfl, hb⟩)
  go_ret
  exact ⟨rfl, hb⟩

theorem walk (a0 : Option Addr) (len0 cap0 : Nat) (z0 : List Int) (a1 : Int) (a2 : Bool) (w : World) (w0 : IsRow .i64 w a0 len0 cap0 z0) (w1 : (Lit.int .i64 a1).wf = true) :
    Calls Try.prog 4 #[.slice a0 len0 cap0, .int .i64 a1, .bool a2] w fun e w' => e = .returned (.bool true) ∧ Below w.heap.size w w' := by
  by_cases hl : 100 < len0
  · exact walk_long a0 len0 cap0 a1 a2 w hl
  · by_cases hx : a1 = 1 ∨ a1 = 2 ∨ a1 = 4
    · obtain ⟨zs, rfl, hv⟩ : ∃ zs : List Int, len0 = zs.length ∧ Vals w [] a0 (zs.map I) := by
        rcases w0 with ⟨rfl, rfl, rfl, rfl⟩ | ⟨x, rfl, hlc, hm, hz, hc, _⟩
        · exact ⟨[], rfl, Vals.nil _ _ _⟩
        · refine ⟨z0.take len0, by simp; omega, fun i v hi => ⟨x, rfl, by simp, ?_⟩⟩
          have hi' : i < len0 ∧ i < z0.length := by
            have := (List.getElem?_eq_some_iff.1 hi).1
            simp at this
            omega
          rw [hc i hi'.2]
          simp only [List.getElem?_map, List.getElem?_take_of_lt hi'.1] at hi
          rw [List.getElem?_eq_getElem hi'.2] at hi
          simp only [Option.map_some] at hi
          rw [List.getD_eq_getElem?_getD, List.getElem?_eq_getElem hi'.2]
          exact hi
      rcases hx with rfl | rfl | rfl
      · exact walk_yes1 a0 cap0 zs a2 w hv (by omega)
      · exact walk_yes2 a0 cap0 zs a2 w hv (by omega)
      · exact walk_yes4 a0 cap0 zs a2 w hv (by omega)
    · exact walk_no a0 len0 cap0 a1 a2 w (by omega) (by omega) (by omega) (by omega)

/-! ### THE ROW's STEP: WRITTEN OUT: LEAVE IT -/
set_option maxRecDepth 100000 in
theorem lifted (os : Os) (started : os.Started) (H : Type) (enc : TypeId × Value → H) :
    ReturnsInHanded {} Try.checked os 4 .any (Rows.rowBackSpec.pre6 enc Try.prog Try.f4 Rows.rowBackRow.domain false) (Rows.rowBackSpec.post enc Try.prog Try.f4 false true false false) := by
  refine returnsInHanded_of_change (C := Try.checked) own started (by kernel_rfl) Try.func4
    (ChangeSpec.witness6 (enc := enc) (C := Try.checked) false ⟨#[], #[.slice none 0 0, .int .i64 0, .bool false], []⟩ 8 (by kernel_rfl) (by kernel_rfl) (by kernel_rfl) (by kernel_rfl)) ?_
  intro W base args ds gs before hval0 hW hcnd _
  have hval : ∀ (j : Nat) t v, Try.f4.params[j]? = some t → args[j]? = some v → Value.okWide Try.prog W .any base t v := hval0
  have hW' := hW
  obtain ⟨p, q, hA0, hV, rfl, hfz, hnd⟩ := hW
  have hA : DataW.TrodAll enc Try.prog W 0 (fun _ => true) true Try.f4.params.toList args.toList ds p := hA0
  rw [Try.params4] at hA hval
  obtain ⟨v0, vs0, d0, ds0, p0, q0, hargs, rfl, rfl, h0, r0⟩ := trodAll_cons hA
  obtain ⟨v1, vs1, d1, ds1, p1, q1, rfl, rfl, rfl, h1, r1⟩ := trodAll_cons r0
  obtain ⟨v2, vs2, d2, ds2, p2, q2, rfl, rfl, rfl, h2, r2⟩ := trodAll_cons r1
  obtain ⟨rfl, rfl, rfl⟩ := trodAll_nil r2
  obtain rfl : args = #[v0, v1, v2] := by cases args; simp_all
  obtain ⟨rfl, rfl⟩ := trodVars_none hV
  obtain ⟨a0, len0, cap0, rfl⟩ := okWide_slice Try.underlying28 (hval 0 28 v0 rfl rfl)
  have k0 := h0
  have lt0 : ∀ x ∈ p0, x.block < W.heap.size := by obtain ⟨m, hm⟩ := k0; exact DataW.trod_lt m _ _ _ hm
  obtain ⟨z0, w0⟩ : ∃ zs, IsRow .i64 W a0 len0 cap0 zs := by
    obtain ⟨fuel, hf⟩ := h0
    rcases open_ints Try.underlying28 Try.underlying3 (by kernel_rfl) hf with ⟨hcs, _⟩ | ⟨x, l, c, zs, hcs, _, hl, hm, hz, _, hcell, hwz⟩
    · simp [Value.cells] at hcs
      obtain ⟨rfl, rfl, rfl⟩ := hcs
      exact ⟨[], .inl ⟨rfl, rfl, rfl, rfl⟩⟩
    · simp [Value.cells] at hcs
      obtain ⟨rfl, rfl, rfl⟩ := hcs
      exact ⟨zs, .inr ⟨_, rfl, hl, hm, by simpa using hz, hcell, hwz⟩⟩
  obtain ⟨a1, rfl, rfl, rfl, w1⟩ := open_int Try.underlying3 (hval 1 3 v1 rfl rfl) h1
  obtain ⟨a2, rfl, rfl, rfl⟩ := open_bool Try.underlying4 (hval 2 4 v2 rfl rfl) h2
  clear hA0 hval0
  refine (walk a0 len0 cap0 z0 a1 a2 W w0 w1).mono fun e W' ⟨he, bel⟩ => ?_
  subst he
  exact ⟨_, rfl, _, _, _, [], _, [], hW', trodAll_mk1 (shut_bool Try.underlying4 _), (trodAll_cons_mk (Below.trod laidOut (by kernel_rfl) (of_decide_eq_true (by kernel_rfl)) k0 bel lt0) (trodAll_cons_mk (shut_int Try.underlying3 w1) (trodAll_cons_mk (shut_bool Try.underlying4 _) trodAll_mk0))), rfl, bel.frame _, fun h => by cases h⟩

theorem over : Rows.rowBackRow.holds Try.pinned (OpenSpec.ofChange Rows.rowBackSpec) :=
  OpenClaim.holds_of_wide 4 Try.f4 rfl rfl rfl rfl rfl rfl rfl ⟨rfl, rfl, rfl, rfl, rfl⟩ rfl rfl rfl rfl rfl (by kernel_rfl) Try.func4 (by kernel_rfl)
    (of_decide_eq_true (by kernel_rfl)) (by unfold Func.isWrapper; first | (rw [if_pos (by decide +kernel)]; kernel_rfl) | (rw [if_neg (by decide +kernel)]; exact ⟨rfl, rfl⟩))
    (fun os started H enc _ => lifted os started H enc)

/-- ████ THE STATEMENT ████ -/
theorem proved : Rows.RowBackSaid := over
#print axioms proved
end Go.Proofs.Ytgbgckdnkkomcaa.rowBack

