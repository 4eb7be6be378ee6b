/-
  The given statement RowBytesSaid is proved: whatever the three integers are, the law returns true and leaves its input as it was. No conditions.
-/
import Derived.Test.YtgbgckdnkkomcaaRef
import Derived.ProofKit
import Derived.OpenShut
import Derived.ShutString
namespace Go.Proofs.Ytgbgckdnkkomcaa.rowBytes
open Go.ChangeShapes Go.WideShapes Go.ChangeAt Go.RowKit
open Go.ChangeMaps (open_string shut_string)
open Go.Proofs.Ytgbgckdnkkomcaa.mem Go.Proofs.Ytgbgckdnkkomcaa.row Go.Proofs.Ytgbgckdnkkomcaa.ref
set_option linter.unusedVariables false

theorem own : ownKnob Try.prog.godebug = none := by kernel_rfl

theorem lay_zero (m k : Nat) (h : k ≤ m) : Row.lay ⟨List.replicate m 0, 0⟩ (List.replicate k 0) = (true, ⟨List.replicate m 0, k⟩) := by
  have e : over (List.replicate m 0) 0 (List.replicate k 0) = List.replicate m 0 := by
    simp only [over, List.take_zero, List.nil_append, List.drop_replicate, List.length_replicate, Nat.zero_add, List.replicate_append_replicate]
    congr 1
    omega
  simp [Row.lay, h, e]
theorem put_last (k x : Nat) (n : Int) (hx : isW x = true) (hn : fitsW x n = true) : Row.put ⟨List.replicate (k + x) 0, k⟩ x [n] = (true, ⟨List.replicate k 0 ++ bytesOf x [n], k + x⟩) := by
  have e : over (List.replicate (k + x) 0) k (bytesOf x [n]) = List.replicate k 0 ++ bytesOf x [n] := by
    simp [over, bytesOf_length]
  simp [Row.put, hx, hn, e]
theorem last_byte (k x i : Nat) (n : Int) (hi : i < x) : (List.replicate k (0 : UInt8) ++ bytesOf x [n])[k + i]? = some (row.byteOf x [n] i) := by
  rw [List.getElem?_append_right (by simp)]
  simp [bytesOf, hi]
theorem byte_one (x i n : Nat) (hi : i < x) : ((row.byteOf x [(n : Int)] i).toNat : Int) = ((n / 256 ^ i % 256 : Nat) : Int) := by
  unfold row.byteOf
  rw [Nat.div_eq_of_lt hi, Nat.mod_eq_of_lt hi, UInt8.toNat_ofNat']
  simp only [List.getD_cons_zero]
  have : ((n : Int) / 256 ^ i % 256) = ((n / 256 ^ i % 256 : Nat) : Int) := by simp
  rw [this, Int.toNat_natCast]
  congr 1
  omega

theorem byte_test {y : UInt8} {n j : Nat} {q : Int} (h : (y.toNat : Int) = ((n / 256 ^ j % 256 : Nat) : Int)) (hn : n < 9223372036854775808) (hq : q = (n : Int) / 256 ^ j) : ((y.toNat : Int) != bits .and .i64 q 255) = false := by
  have e : q = ((n / 256 ^ j : Nat) : Int) := by rw [hq]; simp
  have hlt : n / 256 ^ j < 9223372036854775808 := Nat.lt_of_le_of_lt (Nat.div_le_self _ _) hn
  rw [e, h, show (255 : Int) = ((255 : Nat) : Int) from rfl, i64_and_nat _ _ hlt (by omega), show (255 : Nat) = 2 ^ 8 - 1 from rfl, Nat.and_two_pow_sub_one_eq_mod]
  simp

set_option maxRecDepth 100000 in
set_option maxHeartbeats 1000000 in
theorem walk_no (a0 a1 a2 : Int) (w : World) (h : isW a1 = false) :
    Calls Try.prog 5 #[.int .i64 a0, .int .i64 a1, .int .i64 a2] w fun e w' => e = .returned (.bool true) ∧ Below w.heap.size w w' := by
  have h' : ¬ a1 = 1 ∧ ¬ a1 = 2 ∧ ¬ a1 = 4 := by simpa [isW, and_assoc] using h
  obtain ⟨h1, h2, h4⟩ := h'
  have e1 : (a1 != 1) = true := by rw [bne_iff_ne]; exact h1
  have e2 : (a1 != 2) = true := by rw [bne_iff_ne]; exact h2
  have e4 : (a1 != 4) = true := by rw [bne_iff_ne]; exact h4
  clear h
  go_enter Try.func5, Try.ntmps5
  go_wp2_with (go_at_call 7; refine (awake_any _).mono ?_; rintro e w' ⟨rfl, hb⟩)
  go_ret
  exact ⟨rfl, hb⟩

set_option maxRecDepth 100000 in
set_option maxHeartbeats 1000000 in
theorem walk_yes1 (a0 a2 : Int) (w : World) :
    Calls Try.prog 5 #[.int .i64 a0, .int .i64 1, .int .i64 a2] w fun e w' => e = .returned (.bool true) ∧ Below w.heap.size w w' := by
  go_enter Try.func5, Try.ntmps5
  go_wp2_with fail
  refine (round_ex _ _ _ (by omega) (by omega)).mono ?_
  rintro e w' ⟨k, hk, rfl, rfl⟩
  go_wp2_with fail
  refine (round_ex _ _ _ (by omega) (by omega)).mono ?_
  rintro e w' ⟨n, hn, rfl, rfl⟩
  have HN := hide hn
  clear hn
  generalize (256 : Int) = M
  go_wp2_with fail
  refine (new_at _ _ (by omega) (by omega)).mono ?_
  rintro e w1 ⟨p, b, cap, A, rfl, hp, hb, hb1, hr, hk1⟩
  rw [show ((k : Int) + 1).toNat = k + 1 by omega] at hr
  have hp1 := hr.lt
  have H1 := hide hr
  have K1 := hide hk1
  clear hr hk1
  have hmk := run_make_row' (P := Try.prog) 29 5 (.int .u8 0) 1 (by kernel_rfl) (by kernel_rfl) rfl .i64 .i64 k (by omega) (by omega)
  go_wp2_with fail
  refine (lay_len p b cap A _ _ (List.replicate k 0) k _ _ (by simp) (H1.out.kept (S := []) ((Kept.refl _ _).alloc _) (by simp) (by simp)) (vals_made w1 [p, b] k (by simp; omega))).mono ?_
  rintro e w2 ⟨rfl, h2, hk2⟩
  rw [lay_zero _ k (by omega)] at *
  have H2 := hide h2
  have K2 : Hid (Kept [p, b] w1 w2) := hide (((Kept.refl _ w1).alloc _).trans hk2 (fun i hi => .inl hi))
  clear h2 hk2
  have hs2 := K2.out.size
  go_wp2_with fail
  refine (put_at p b cap A _ _ _ [(n : Int)] 1 _ (H2.out.kept (S := []) ((Kept.refl _ _).alloc _) (by simp) (by simp)) (vals_one w2 [p, b] n _ (by simp; omega)) (by simp)).mono ?_
  rintro e w3 ⟨rfl, h3, hk3⟩
  rw [show Row.put ⟨List.replicate (k + 1) 0, k⟩ 1 [(n : Int)] = _ from put_last k 1 n rfl (by have := HN.out; simp [fitsW]; omega)] at *
  have H3 := hide h3
  have K3 : Hid (Kept [p, b] w1 w3) := hide (K2.out.trans (((Kept.refl _ w2).alloc _).trans hk3 (fun i hi => .inl hi)) (fun i hi => .inl hi))
  clear h3 hk3
  go_wp2_with fail
  refine (bytes_at p b cap A _ _ H3.out).mono ?_
  rintro e w4 ⟨A4, c4, rfl, hn4, hk4⟩
  rw [show (List.replicate k (0 : UInt8) ++ bytesOf 1 [(n : Int)]).length = k + 1 by simp [bytesOf_length]]
  have K4 : Hid (Below w.heap.size w w4) := hide ((K1.out.trans (K3.out.trans hk4 (by simp)) (by simp; omega)).below (by simp))
  have N4 := hide hn4
  clear hk4 hn4
  go_wp2_with fail
  obtain ⟨g, rfl, hg, HA4⟩ := N4.out.pos (by simp [bytesOf_length])
  have HA4 := hide HA4
  go_loopw [10] (fun i wr => ∃ j : Nat, j ≤ 1 ∧ i = .int .i64 j ∧ ∃ d, wr = w4.drewN d) (fun i wr => 1 - (intOf i).toNat)
  case atStart => exact ⟨0, by omega, rfl, 0, rfl⟩
  case round =>
    obtain ⟨j, hj, rfl, d, rfl⟩ := hrel
    by_cases hlt : j < 1
    · have hc := HA4.out.at_ (last_byte k 1 j n hlt)
      have hb1 := hide (byte_one 1 j n hlt)
      generalize row.byteOf 1 [(n : Int)] j = y at hc hb1
      unfold B at hc
      have hy : (y.toNat : Int) < 256 := by have := y.toNat_lt; omega
      have hw0 : IntKind.i64.wrap 0 = 0 := by decide
      have hw8 : IntKind.i64.wrap 8 = 8 := by decide
      have hw16 : IntKind.i64.wrap 16 = 16 := by decide
      have hw24 : IntKind.i64.wrap 24 = 24 := by decide
      have HT : ∀ q : Int, q = (n : Int) / 256 ^ j → ((y.toNat : Int) != bits .and .i64 q 255) = false := fun q hq => byte_test hb1.out (by have := HN.out; omega) hq
      have HT := hide HT
      have hj4 : j = 0 := by omega
      clear hj
      obtain rfl := hj4
      · rw [Nat.add_zero] at hc
        have g0 : (0 : Int) ≤ (k : Int) := by omega
        have g1 : ((k : Int)).toNat = k := by omega
        have g2 : (k : Int) < k + 1 := by omega
        have g3 : IntKind.i64.wrap ((k : Int)) = (k : Int) := IntWalk.i64_in _ (by omega)
        have ht := HT.out (n : Int) (by simp)
        go_wp2
        go_quiet (fail)
        go_wp2
        go_roundw
        case rel => exact ⟨1, by omega, rfl, _, rfl⟩
        case measure => simp [intOf]
    · obtain rfl : j = 1 := by omega
      go_wp2_with (go_at_call 7; refine (awake_any _).mono ?_; rintro e w5 ⟨rfl, hb5⟩)
      go_ret
      exact ⟨rfl, below_then (below_drewN K4.out d) hb5⟩

set_option maxRecDepth 100000 in
set_option maxHeartbeats 1000000 in
theorem walk_yes2 (a0 a2 : Int) (w : World) :
    Calls Try.prog 5 #[.int .i64 a0, .int .i64 2, .int .i64 a2] w fun e w' => e = .returned (.bool true) ∧ Below w.heap.size w w' := by
  go_enter Try.func5, Try.ntmps5
  go_wp2_with fail
  refine (round_ex _ _ _ (by omega) (by omega)).mono ?_
  rintro e w' ⟨k, hk, rfl, rfl⟩
  go_wp2_with fail
  refine (round_ex _ _ _ (by omega) (by omega)).mono ?_
  rintro e w' ⟨n, hn, rfl, rfl⟩
  have HN := hide hn
  clear hn
  generalize (65536 : Int) = M
  go_wp2_with fail
  refine (new_at _ _ (by omega) (by omega)).mono ?_
  rintro e w1 ⟨p, b, cap, A, rfl, hp, hb, hb1, hr, hk1⟩
  rw [show ((k : Int) + 2).toNat = k + 2 by omega] at hr
  have hp1 := hr.lt
  have H1 := hide hr
  have K1 := hide hk1
  clear hr hk1
  have hmk := run_make_row' (P := Try.prog) 29 5 (.int .u8 0) 1 (by kernel_rfl) (by kernel_rfl) rfl .i64 .i64 k (by omega) (by omega)
  go_wp2_with fail
  refine (lay_len p b cap A _ _ (List.replicate k 0) k _ _ (by simp) (H1.out.kept (S := []) ((Kept.refl _ _).alloc _) (by simp) (by simp)) (vals_made w1 [p, b] k (by simp; omega))).mono ?_
  rintro e w2 ⟨rfl, h2, hk2⟩
  rw [lay_zero _ k (by omega)] at *
  have H2 := hide h2
  have K2 : Hid (Kept [p, b] w1 w2) := hide (((Kept.refl _ w1).alloc _).trans hk2 (fun i hi => .inl hi))
  clear h2 hk2
  have hs2 := K2.out.size
  go_wp2_with fail
  refine (put_at p b cap A _ _ _ [(n : Int)] 1 _ (H2.out.kept (S := []) ((Kept.refl _ _).alloc _) (by simp) (by simp)) (vals_one w2 [p, b] n _ (by simp; omega)) (by simp)).mono ?_
  rintro e w3 ⟨rfl, h3, hk3⟩
  rw [show Row.put ⟨List.replicate (k + 2) 0, k⟩ 2 [(n : Int)] = _ from put_last k 2 n rfl (by have := HN.out; simp [fitsW]; omega)] at *
  have H3 := hide h3
  have K3 : Hid (Kept [p, b] w1 w3) := hide (K2.out.trans (((Kept.refl _ w2).alloc _).trans hk3 (fun i hi => .inl hi)) (fun i hi => .inl hi))
  clear h3 hk3
  go_wp2_with fail
  refine (bytes_at p b cap A _ _ H3.out).mono ?_
  rintro e w4 ⟨A4, c4, rfl, hn4, hk4⟩
  rw [show (List.replicate k (0 : UInt8) ++ bytesOf 2 [(n : Int)]).length = k + 2 by simp [bytesOf_length]]
  have K4 : Hid (Below w.heap.size w w4) := hide ((K1.out.trans (K3.out.trans hk4 (by simp)) (by simp; omega)).below (by simp))
  have N4 := hide hn4
  clear hk4 hn4
  go_wp2_with fail
  obtain ⟨g, rfl, hg, HA4⟩ := N4.out.pos (by simp [bytesOf_length])
  have HA4 := hide HA4
  go_loopw [10] (fun i wr => ∃ j : Nat, j ≤ 2 ∧ i = .int .i64 j ∧ ∃ d, wr = w4.drewN d) (fun i wr => 2 - (intOf i).toNat)
  case atStart => exact ⟨0, by omega, rfl, 0, rfl⟩
  case round =>
    obtain ⟨j, hj, rfl, d, rfl⟩ := hrel
    by_cases hlt : j < 2
    · have hc := HA4.out.at_ (last_byte k 2 j n hlt)
      have hb1 := hide (byte_one 2 j n hlt)
      generalize row.byteOf 2 [(n : Int)] j = y at hc hb1
      unfold B at hc
      have hy : (y.toNat : Int) < 256 := by have := y.toNat_lt; omega
      have hw0 : IntKind.i64.wrap 0 = 0 := by decide
      have hw8 : IntKind.i64.wrap 8 = 8 := by decide
      have hw16 : IntKind.i64.wrap 16 = 16 := by decide
      have hw24 : IntKind.i64.wrap 24 = 24 := by decide
      have HT : ∀ q : Int, q = (n : Int) / 256 ^ j → ((y.toNat : Int) != bits .and .i64 q 255) = false := fun q hq => byte_test hb1.out (by have := HN.out; omega) hq
      have HT := hide HT
      have hj4 : j = 0 ∨ j = 1 := by omega
      clear hj
      rcases hj4 with rfl | rfl
      · rw [Nat.add_zero] at hc
        have g0 : (0 : Int) ≤ (k : Int) := by omega
        have g1 : ((k : Int)).toNat = k := by omega
        have g2 : (k : Int) < k + 2 := by omega
        have g3 : IntKind.i64.wrap ((k : Int)) = (k : Int) := IntWalk.i64_in _ (by omega)
        have ht := HT.out (n : Int) (by simp)
        go_wp2
        go_quiet (fail)
        go_wp2
        go_roundw
        case rel => exact ⟨1, by omega, rfl, _, rfl⟩
        case measure => simp [intOf]
      · have g0 : (0 : Int) ≤ (k : Int) + 1 := by omega
        have g1 : ((k : Int) + 1).toNat = k + 1 := by omega
        have g2 : (k : Int) + 1 < k + 2 := by omega
        have g3 : IntKind.i64.wrap ((k : Int) + 1) = (k : Int) + 1 := IntWalk.i64_in _ (by omega)
        have ht := HT.out ((n : Int) / 256) (by simp)
        go_wp2
        go_quiet (fail)
        go_wp2
        go_roundw
        case rel => exact ⟨2, by omega, rfl, _, rfl⟩
        case measure => simp [intOf]
    · obtain rfl : j = 2 := by omega
      go_wp2_with (go_at_call 7; refine (awake_any _).mono ?_; rintro e w5 ⟨rfl, hb5⟩)
      go_ret
      exact ⟨rfl, below_then (below_drewN K4.out d) hb5⟩

set_option maxRecDepth 100000 in
set_option maxHeartbeats 1000000 in
theorem walk_yes4 (a0 a2 : Int) (w : World) :
    Calls Try.prog 5 #[.int .i64 a0, .int .i64 4, .int .i64 a2] w fun e w' => e = .returned (.bool true) ∧ Below w.heap.size w w' := by
  go_enter Try.func5, Try.ntmps5
  go_wp2_with fail
  refine (round_ex _ _ _ (by omega) (by omega)).mono ?_
  rintro e w' ⟨k, hk, rfl, rfl⟩
  go_wp2_with fail
  refine (round_ex _ _ _ (by omega) (by omega)).mono ?_
  rintro e w' ⟨n, hn, rfl, rfl⟩
  have HN := hide hn
  clear hn
  generalize (4294967296 : Int) = M
  go_wp2_with fail
  refine (new_at _ _ (by omega) (by omega)).mono ?_
  rintro e w1 ⟨p, b, cap, A, rfl, hp, hb, hb1, hr, hk1⟩
  rw [show ((k : Int) + 4).toNat = k + 4 by omega] at hr
  have hp1 := hr.lt
  have H1 := hide hr
  have K1 := hide hk1
  clear hr hk1
  have hmk := run_make_row' (P := Try.prog) 29 5 (.int .u8 0) 1 (by kernel_rfl) (by kernel_rfl) rfl .i64 .i64 k (by omega) (by omega)
  go_wp2_with fail
  refine (lay_len p b cap A _ _ (List.replicate k 0) k _ _ (by simp) (H1.out.kept (S := []) ((Kept.refl _ _).alloc _) (by simp) (by simp)) (vals_made w1 [p, b] k (by simp; omega))).mono ?_
  rintro e w2 ⟨rfl, h2, hk2⟩
  rw [lay_zero _ k (by omega)] at *
  have H2 := hide h2
  have K2 : Hid (Kept [p, b] w1 w2) := hide (((Kept.refl _ w1).alloc _).trans hk2 (fun i hi => .inl hi))
  clear h2 hk2
  have hs2 := K2.out.size
  go_wp2_with fail
  refine (put_at p b cap A _ _ _ [(n : Int)] 1 _ (H2.out.kept (S := []) ((Kept.refl _ _).alloc _) (by simp) (by simp)) (vals_one w2 [p, b] n _ (by simp; omega)) (by simp)).mono ?_
  rintro e w3 ⟨rfl, h3, hk3⟩
  rw [show Row.put ⟨List.replicate (k + 4) 0, k⟩ 4 [(n : Int)] = _ from put_last k 4 n rfl (by have := HN.out; simp [fitsW]; omega)] at *
  have H3 := hide h3
  have K3 : Hid (Kept [p, b] w1 w3) := hide (K2.out.trans (((Kept.refl _ w2).alloc _).trans hk3 (fun i hi => .inl hi)) (fun i hi => .inl hi))
  clear h3 hk3
  go_wp2_with fail
  refine (bytes_at p b cap A _ _ H3.out).mono ?_
  rintro e w4 ⟨A4, c4, rfl, hn4, hk4⟩
  rw [show (List.replicate k (0 : UInt8) ++ bytesOf 4 [(n : Int)]).length = k + 4 by simp [bytesOf_length]]
  have K4 : Hid (Below w.heap.size w w4) := hide ((K1.out.trans (K3.out.trans hk4 (by simp)) (by simp; omega)).below (by simp))
  have N4 := hide hn4
  clear hk4 hn4
  go_wp2_with fail
  obtain ⟨g, rfl, hg, HA4⟩ := N4.out.pos (by simp [bytesOf_length])
  have HA4 := hide HA4
  go_loopw [10] (fun i wr => ∃ j : Nat, j ≤ 4 ∧ i = .int .i64 j ∧ ∃ d, wr = w4.drewN d) (fun i wr => 4 - (intOf i).toNat)
  case atStart => exact ⟨0, by omega, rfl, 0, rfl⟩
  case round =>
    obtain ⟨j, hj, rfl, d, rfl⟩ := hrel
    by_cases hlt : j < 4
    · have hc := HA4.out.at_ (last_byte k 4 j n hlt)
      have hb1 := hide (byte_one 4 j n hlt)
      generalize row.byteOf 4 [(n : Int)] j = y at hc hb1
      unfold B at hc
      have hy : (y.toNat : Int) < 256 := by have := y.toNat_lt; omega
      have hw0 : IntKind.i64.wrap 0 = 0 := by decide
      have hw8 : IntKind.i64.wrap 8 = 8 := by decide
      have hw16 : IntKind.i64.wrap 16 = 16 := by decide
      have hw24 : IntKind.i64.wrap 24 = 24 := by decide
      have HT : ∀ q : Int, q = (n : Int) / 256 ^ j → ((y.toNat : Int) != bits .and .i64 q 255) = false := fun q hq => byte_test hb1.out (by have := HN.out; omega) hq
      have HT := hide HT
      have hj4 : j = 0 ∨ j = 1 ∨ j = 2 ∨ j = 3 := by omega
      clear hj
      rcases hj4 with rfl | rfl | rfl | rfl
      · rw [Nat.add_zero] at hc
        have g0 : (0 : Int) ≤ (k : Int) := by omega
        have g1 : ((k : Int)).toNat = k := by omega
        have g2 : (k : Int) < k + 4 := by omega
        have g3 : IntKind.i64.wrap ((k : Int)) = (k : Int) := IntWalk.i64_in _ (by omega)
        have ht := HT.out (n : Int) (by simp)
        go_wp2
        go_quiet (fail)
        go_wp2
        go_roundw
        case rel => exact ⟨1, by omega, rfl, _, rfl⟩
        case measure => simp [intOf]
      · have g0 : (0 : Int) ≤ (k : Int) + 1 := by omega
        have g1 : ((k : Int) + 1).toNat = k + 1 := by omega
        have g2 : (k : Int) + 1 < k + 4 := by omega
        have g3 : IntKind.i64.wrap ((k : Int) + 1) = (k : Int) + 1 := IntWalk.i64_in _ (by omega)
        have ht := HT.out ((n : Int) / 256) (by simp)
        go_wp2
        go_quiet (fail)
        go_wp2
        go_roundw
        case rel => exact ⟨2, by omega, rfl, _, rfl⟩
        case measure => simp [intOf]
      · have g0 : (0 : Int) ≤ (k : Int) + 2 := by omega
        have g1 : ((k : Int) + 2).toNat = k + 2 := by omega
        have g2 : (k : Int) + 2 < k + 4 := by omega
        have g3 : IntKind.i64.wrap ((k : Int) + 2) = (k : Int) + 2 := IntWalk.i64_in _ (by omega)
        have ht := HT.out ((n : Int) / 65536) (by simp)
        go_wp2
        go_quiet (fail)
        go_wp2
        go_roundw
        case rel => exact ⟨3, by omega, rfl, _, rfl⟩
        case measure => simp [intOf]
      · have g0 : (0 : Int) ≤ (k : Int) + 3 := by omega
        have g1 : ((k : Int) + 3).toNat = k + 3 := by omega
        have g2 : (k : Int) + 3 < k + 4 := by omega
        have g3 : IntKind.i64.wrap ((k : Int) + 3) = (k : Int) + 3 := IntWalk.i64_in _ (by omega)
        have ht := HT.out ((n : Int) / 16777216) (by simp)
        go_wp2
        go_quiet (fail)
        go_wp2
        go_roundw
        case rel => exact ⟨4, by omega, rfl, _, rfl⟩
        case measure => simp [intOf]
    · obtain rfl : j = 4 := by omega
      go_wp2_with (go_at_call 7; refine (awake_any _).mono ?_; rintro e w5 ⟨rfl, hb5⟩)
      go_ret
      exact ⟨rfl, below_then (below_drewN K4.out d) hb5⟩

theorem walk_yes (a0 a1 a2 : Int) (w : World) (h : a1 = 1 ∨ a1 = 2 ∨ a1 = 4) :
    Calls Try.prog 5 #[.int .i64 a0, .int .i64 a1, .int .i64 a2] w fun e w' => e = .returned (.bool true) ∧ Below w.heap.size w w' := by
  rcases h with rfl | rfl | rfl
  · exact walk_yes1 a0 a2 w
  · exact walk_yes2 a0 a2 w
  · exact walk_yes4 a0 a2 w

theorem walk (a0 : Int) (a1 : Int) (a2 : Int) (w0 : (Lit.int .i64 a0).wf = true) (w1 : (Lit.int .i64 a1).wf = true) (w2 : (Lit.int .i64 a2).wf = true) (w : World) :
    Calls Try.prog 5 #[.int .i64 a0, .int .i64 a1, .int .i64 a2] w fun e w' => e = .returned (.bool true) ∧ Below w.heap.size w w' := by
  by_cases h : isW a1 = true
  · exact walk_yes a0 a1 a2 w (by simpa [isW, or_assoc] using h)
  · exact walk_no a0 a1 a2 w ((Bool.not_eq_true _).mp h)

/-! ### THE ROW's STEP: WRITTEN OUT: LEAVE IT -/
set_option maxRecDepth 100000 in
theorem lifted (os : Os) (started : os.Started) (H : Type) (enc : TypeId × Value → H) :
    ReturnsInHanded {} Try.checked os 5 .any (Rows.rowBytesSpec.pre6 enc Try.prog Try.f5 Rows.rowBytesRow.domain false) (Rows.rowBytesSpec.post enc Try.prog Try.f5 false true false false) := by
  refine returnsInHanded_of_change (C := Try.checked) own started (by kernel_rfl) Try.func5
    (ChangeSpec.witness6 (enc := enc) (C := Try.checked) false ⟨#[], #[.int .i64 0, .int .i64 0, .int .i64 0], []⟩ 8 (by kernel_rfl) (by kernel_rfl) (by kernel_rfl) (by kernel_rfl)) ?_
  intro W base args ds gs before hval0 hW hcnd _
  have hval : ∀ (j : Nat) t v, Try.f5.params[j]? = some t → args[j]? = some v → Value.okWide Try.prog W .any base t v := hval0
  have hW' := hW
  obtain ⟨p, q, hA0, hV, rfl, hfz, hnd⟩ := hW
  have hA : DataW.TrodAll enc Try.prog W 0 (fun _ => true) true Try.f5.params.toList args.toList ds p := hA0
  rw [Try.params5] at hA hval
  obtain ⟨v0, vs0, d0, ds0, p0, q0, hargs, rfl, rfl, h0, r0⟩ := trodAll_cons hA
  obtain ⟨v1, vs1, d1, ds1, p1, q1, rfl, rfl, rfl, h1, r1⟩ := trodAll_cons r0
  obtain ⟨v2, vs2, d2, ds2, p2, q2, rfl, rfl, rfl, h2, r2⟩ := trodAll_cons r1
  obtain ⟨rfl, rfl, rfl⟩ := trodAll_nil r2
  obtain rfl : args = #[v0, v1, v2] := by cases args; simp_all
  obtain ⟨rfl, rfl⟩ := trodVars_none hV
  obtain ⟨a0, rfl, rfl, rfl, w0⟩ := open_int Try.underlying3 (hval 0 3 v0 rfl rfl) h0
  obtain ⟨a1, rfl, rfl, rfl, w1⟩ := open_int Try.underlying3 (hval 1 3 v1 rfl rfl) h1
  obtain ⟨a2, rfl, rfl, rfl, w2⟩ := open_int Try.underlying3 (hval 2 3 v2 rfl rfl) h2
  clear hA0 hval0
  simp only [List.append_nil] at hW'
  refine (walk a0 a1 a2 w0 w1 w2 W).mono fun e W' ⟨he, bel⟩ => ?_
  subst he
  exact ⟨_, rfl, _, _, _, [], [], [], hW', trodAll_mk1 (shut_bool Try.underlying4 _), (trodAll_cons_mk (shut_int Try.underlying3 w0) (trodAll_cons_mk (shut_int Try.underlying3 w1) (trodAll_cons_mk (shut_int Try.underlying3 w2) trodAll_mk0))), rfl, bel.frame _, fun h => by cases h⟩

theorem over : Rows.rowBytesRow.holds Try.pinned (OpenSpec.ofChange Rows.rowBytesSpec) :=
  OpenClaim.holds_of_wide 5 Try.f5 rfl rfl rfl rfl rfl rfl rfl ⟨rfl, rfl, rfl, rfl, rfl⟩ rfl rfl rfl rfl rfl (by kernel_rfl) Try.func5 (by kernel_rfl)
    (of_decide_eq_true (by kernel_rfl)) (by unfold Func.isWrapper; first | (rw [if_pos (by decide +kernel)]; kernel_rfl) | (rw [if_neg (by decide +kernel)]; exact ⟨rfl, rfl⟩))
    (fun os started H enc _ => lifted os started H enc)

/-- ████ THE STATEMENT ████ -/
theorem proved : Rows.RowBytesSaid :=
  over
#print axioms proved
end Go.Proofs.Ytgbgckdnkkomcaa.rowBytes

