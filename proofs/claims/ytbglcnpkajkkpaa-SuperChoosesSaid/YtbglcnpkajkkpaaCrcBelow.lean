import Derived.Test.YtbglcnpkajkkpaaCrcTurnedAt
/-! Bits turned below a place that is not the end. -/
namespace Go.Proofs.Ytbglcnpkajkkpaa.crc
open Go.RowKit Go.Proofs.Ytbglcnpkajkkpaa.mem Go.Proofs.Ytbglcnpkajkkpaa.base

theorem TurnedAt.same {bs out : List UInt8} {first p : Nat} {any : Bool} (h : TurnedAt bs out first p 32 any) (ha : any = false) : out = bs := by
  have hn : ∀ i, i < 8 * bs.length → msk first p 32 i = false := fun i hi => by
    cases hm : msk first p 32 i with
    | false => rfl
    | true => have := h.any.2 ⟨i, hi, hm⟩; rw [ha] at this; cases this
  apply List.ext_getElem h.len
  intro j h1 h2
  apply UInt8.toNat_inj.1
  apply Nat.eq_of_testBit_eq
  intro r
  by_cases hr : r < 8
  · have hi : 8 * j + r < 8 * bs.length := by omega
    have hb := h.bit (8 * j + r) hi
    rw [hn _ hi, Bool.xor_false] at hb
    unfold bitAt at hb
    rw [show (8 * j + r) / 8 = j by omega, show (8 * j + r) % 8 = r by omega, List.getElem?_eq_getElem h1, List.getElem?_eq_getElem h2] at hb
    exact hb
  · rw [Nat.testBit_lt_two_pow, Nat.testBit_lt_two_pow]
    · exact Nat.lt_of_lt_of_le (UInt8.toNat_lt _) (Nat.pow_le_pow_right (by omega) (show 8 ≤ r by omega))
    · exact Nat.lt_of_lt_of_le (UInt8.toNat_lt _) (Nat.pow_le_pow_right (by omega) (show 8 ≤ r by omega))

set_option maxRecDepth 100000 in
set_option maxHeartbeats 1000000 in
theorem turned_below (P : Option Addr) (n m c : Nat) (at_ : Int) (p : Nat) (bs t : List UInt8) (w : World) (hv : Vals w [] P ((bs ++ t).map B)) (hl : (bs ++ t).length = n) (hm : bs.length = m) (hnc : n ≤ c) (h1 : 1 ≤ m) (hmn : m ≤ n) (hn : n ≤ 1000) (hp : p < 4294967296) :
    Calls Try.prog 16 #[.slice P n c, .int .i64 m, .int .i64 at_, .int .u32 p] w fun e w' =>
      ∃ g first out any, e = .returned (.tuple #[.slice (some ⟨g, 0, none⟩) n n, .bool any]) ∧ w.heap.size ≤ g ∧ first = (at_ % (8 * m : Nat)).toNat ∧ TurnedAt bs out first p 32 any ∧ Arr w' g n (out ++ t) ∧ Kept [] w w' := by
  have HV := hide hv
  have HL := hide hl
  have HM := hide hm
  clear hv hl hm
  go_enter Try.func16, Try.ntmps16
  go_wp2_with fail
  refine (part_any P n c 0 n (bs ++ t) _ HV.out HL.out hnc (by omega) (by omega) (by omega) (by omega)).mono ?_
  rintro e w' ⟨g, rfl, hg, ha, hk⟩
  rw [show ((n : Int) - 0).toNat = n by omega] at *
  rw [show (((bs ++ t).drop (0 : Int).toNat).take n) = bs ++ t by rw [show (0 : Int).toNat = 0 from rfl, List.drop_zero, ← HL.out, List.take_length]] at ha
  have HA := hide ha
  have HK := hide hk
  clear ha hk
  have q1 : ¬ ((m : Int) < 1) := by omega
  have q2 : ¬ ((n : Int) < m) := by omega
  go_wp2_with fail
  refine (round_any at_ (8 * (m : Int)) _ (by omega) (by omega)).mono ?_
  rintro e w2 ⟨rfl, rfl⟩
  obtain ⟨first, hf⟩ : ∃ first : Nat, at_ % (8 * (m : Int)) = first := ⟨(at_ % (8 * (m : Int))).toNat, by have := Int.emod_nonneg at_ (show (8 * (m : Int)) ≠ 0 by omega); omega⟩
  have hf2 : first < 8 * m := by have := Int.emod_lt_of_pos at_ (show 0 < (8 * (m : Int)) by omega); omega
  have HF : Hid (first = (at_ % (8 * m : Nat)).toNat) := hide (by rw [show ((8 * m : Nat) : Int) = 8 * (m : Int) by omega, hf]; rfl)
  rw [hf]
  clear hf
  go_wp2
  go_loopw [13, 12] (fun i x wr => ∃ (k : Nat) (any : Bool) (out : List UInt8), k ≤ 32 ∧ i = .int .i64 k ∧ x = .bool any ∧ Hid (TurnedAt bs out first p k any) ∧ Hid (Arr wr g n (out ++ t)) ∧ Hid (Kept [] w wr)) (fun i x wr => 32 - (intOf i).toNat)
  case atStart => exact ⟨0, false, bs, by omega, rfl, rfl, hide (TurnedAt.start bs first p), HA, HK⟩
  case round =>
    obtain ⟨k, any, out, hk, rfl, rfl, HT, HAr, HKr⟩ := hrel
    by_cases hlt : k < 32
    · by_cases hpk : p.testBit k = true
      · have ht : (bits .and .u32 ((p : Int) / 2 ^ k) 1 == 1) = true := by rw [bit_test p k hp]; exact hpk
        by_cases hb : first + k < 8 * m
        · obtain ⟨q, hqq⟩ : ∃ q, (first + k) / 8 = q := ⟨_, rfl⟩
          obtain ⟨r, hrr⟩ : ∃ r, (first + k) % 8 = r := ⟨_, rfl⟩
          have hq : q < m := by omega
          have hqn : q < n := by omega
          have hr8 : r < 8 := by omega
          have hlen : out.length = m := by rw [HT.out.len]; exact HM.out
          have hy : out[q]? = some out[q] := List.getElem?_eq_getElem (by rw [hlen]; exact hq)
          have hc := HAr.out.at_ (i := q) (x := out[q]) (by rw [List.getElem?_append_left (by rw [hlen]; exact hq)]; exact hy)
          have HY := hide hy
          clear hy
          generalize out[q]'(by rw [hlen]; exact hq) = y at hc HY
          unfold B at hc
          have hfz := HAr.out.frozen q
          obtain ⟨x, hx, hbx⟩ := turn_byte y r hr8
          have HX := hide hx
          clear hx hlen
          have g0 : IntKind.i64.wrap ((first : Int) + k) = (first : Int) + k := IntWalk.i64_in _ (by omega)
          have g1 : IntKind.i64.wrap (((first : Int) + k).tdiv 8) = (q : Int) := by rw [IntWalk.i64_quo _ _ (by omega)]; omega
          have g2 : ((first : Int) + k).tmod 8 = (r : Int) := by rw [IntWalk.rem_in _ _ (by omega)]; omega
          have g3 : IntKind.u8.wrap (2 ^ r) = (2 ^ r : Int) := by
            have : r = 0 ∨ r = 1 ∨ r = 2 ∨ r = 3 ∨ r = 4 ∨ r = 5 ∨ r = 6 ∨ r = 7 := by omega
            rcases this with rfl | rfl | rfl | rfl | rfl | rfl | rfl | rfl <;> decide
          have HQQ := hide hqq
          have HRR := hide hrr
          clear hqq hrr
          go_wp2
          go_still_tail 19, (by kernel_rfl)
          change wpList _ _ _ _ _ (World.drew wr)
          go_wp2
          refine ⟨⟨k + 1, true, out.set q x, by omega, by go_num, rfl, hide ?_, hide (by have h2 := (HAr.out.set_ (i := q) x).drew; rwa [List.set_append_left _ _ (by rw [HT.out.len, HM.out]; exact hq)] at h2), hide (HKr.out.set_ (.inr hg) _ _).drew⟩, by simp [intOf]; omega⟩
          have := HT.out.yes hpk (by have := HM.out; omega) y x (by rw [HQQ.out]; exact HY.out) (by rw [HRR.out]; exact HX.out)
          rwa [HQQ.out] at this
        · have hb' : ¬ ((first : Int) + k < 8 * m) := by omega
          go_wp2
          go_roundw
          case rel => exact ⟨k + 1, any, out, by omega, by go_num, rfl, hide (HT.out.no (.inr (by have := HM.out; omega))), HAr, HKr⟩
          case measure => simp [intOf]; omega
      · have ht : (bits .and .u32 ((p : Int) / 2 ^ k) 1 == 1) = false := by rw [bit_test p k hp]; exact (Bool.not_eq_true _).mp hpk
        go_wp2
        go_roundw
        case rel => exact ⟨k + 1, any, out, by omega, by go_num, rfl, hide (HT.out.no (.inl ((Bool.not_eq_true _).mp hpk))), HAr, HKr⟩
        case measure => simp [intOf]; omega
    · obtain rfl : k = 32 := by omega
      go_wp2
      go_ret2
      exact ⟨g, first, out, any, rfl, hg, HF.out, HT.out, HAr.out, HKr.out⟩
end Go.Proofs.Ytbglcnpkajkkpaa.crc
