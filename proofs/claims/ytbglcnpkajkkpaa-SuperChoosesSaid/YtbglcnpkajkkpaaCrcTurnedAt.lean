/- keelsonalike.Turned. -/
import Derived.Test.YtbglcnpkajkkpaaCrcBits
import Derived.Test.YtbglcnpkajkkpaaCrcAwake
import Derived.StillTailTactics
namespace Go.Proofs.Ytbglcnpkajkkpaa.crc
open Go.RowKit Go.Proofs.Ytbglcnpkajkkpaa.mem Go.Proofs.Ytbglcnpkajkkpaa.base Go.Proofs.Ytbglcnpkajkkpaa.crcMath

theorem bit_test (p k : Nat) (hp : p < 4294967296) : (bits .and .u32 ((p : Int) / 2 ^ k) 1 == 1) = p.testBit k := by
  have e : ((p : Int) / 2 ^ k) = ((p / 2 ^ k : Nat) : Int) := by simp
  have h2 : p / 2 ^ k ≤ p := Nat.div_le_self _ _
  have h3 : (p / 2 ^ k).testBit 0 = p.testBit k := by rw [Nat.testBit_div_two_pow, Nat.zero_add]
  rw [e]
  generalize p / 2 ^ k = q at *
  rw [show (1 : Int) = ((1 : Nat) : Int) from rfl, u32_and_nat q 1 (by omega) (by omega), Nat.and_one_is_mod, ← h3, Nat.testBit_zero]
  by_cases h : q % 2 = 1
  · simp [h]
  · have h0 : q % 2 = 0 := by omega
    simp [h0]

theorem turn_byte (y : UInt8) (r : Nat) (hr : r < 8) : ∃ x : UInt8, x.toNat = y.toNat ^^^ 2 ^ r ∧ bits .xor .u8 (y.toNat : Int) (2 ^ r : Int) = (x.toNat : Int) := by
  have hy := y.toNat_lt
  have h2 : 2 ^ r < 256 := Nat.pow_lt_pow_right (a := 2) (by omega) (m := r) (n := 8) hr
  have h3 : y.toNat ^^^ 2 ^ r < 256 := Nat.xor_lt_two_pow (n := 8) hy h2
  refine ⟨UInt8.ofNat (y.toNat ^^^ 2 ^ r), ?_, ?_⟩
  · rw [UInt8.toNat_ofNat']
    exact Nat.mod_eq_of_lt h3
  · rw [show (2 ^ r : Int) = ((2 ^ r : Nat) : Int) by simp, u8_xor_nat _ _ hy h2, UInt8.toNat_ofNat', Nat.mod_eq_of_lt h3]

set_option maxRecDepth 100000 in
set_option maxHeartbeats 1000000 in
theorem turned_any (P : Option Addr) (n c : Nat) (at_ : Int) (p : Nat) (bs : List UInt8) (w : World) (hv : Vals w [] P (bs.map B)) (hl : bs.length = n) (hnc : n ≤ c) (h1 : 1 ≤ n) (hn : n ≤ 1000) (hp : p < 4294967296) :
    Calls Try.prog 16 #[.slice P n c, .int .i64 n, .int .i64 at_, .int .u32 p] w fun e w' =>
      ∃ g first out any, e = .returned (.tuple #[.slice (some ⟨g, 0, none⟩) n n, .bool any]) ∧ w.heap.size ≤ g ∧ first = (at_ % (8 * n : Nat)).toNat ∧ TurnedAt bs out first p 32 any ∧ Arr w' g n out ∧ Kept [] w w' := by
  have HV := hide hv
  have HL := hide hl
  clear hv hl
  go_enter Try.func16, Try.ntmps16
  go_wp2_with fail
  refine (part_any P n c 0 n bs _ HV.out HL.out hnc (by omega) (by omega) (by omega) (by omega)).mono ?_
  rintro e w' ⟨g, rfl, hg, ha, hk⟩
  rw [show ((n : Int) - 0).toNat = n by omega] at *
  rw [show ((bs.drop (0 : Int).toNat).take n) = bs by rw [← HL.out]; simp] at ha
  have HA := hide ha
  have HK := hide hk
  clear ha hk
  go_wp2_with fail
  refine (round_any at_ (8 * (n : Int)) _ (by omega) (by omega)).mono ?_
  rintro e w2 ⟨rfl, rfl⟩
  obtain ⟨first, hf⟩ : ∃ first : Nat, at_ % (8 * (n : Int)) = first := ⟨(at_ % (8 * (n : Int))).toNat, by have := Int.emod_nonneg at_ (show (8 * (n : Int)) ≠ 0 by omega); omega⟩
  have hf2 : first < 8 * n := by have := Int.emod_lt_of_pos at_ (show 0 < (8 * (n : Int)) by omega); omega
  have HF : Hid (first = (at_ % (8 * n : Nat)).toNat) := hide (by rw [show ((8 * n : Nat) : Int) = 8 * (n : Int) by omega, hf]; rfl)
  rw [hf]
  clear hf
  go_wp2
  go_loopw [13, 12] (fun i x wr => ∃ (k : Nat) (any : Bool) (out : List UInt8), k ≤ 32 ∧ i = .int .i64 k ∧ x = .bool any ∧ Hid (TurnedAt bs out first p k any) ∧ Hid (Arr wr g n out) ∧ Hid (Kept [] w wr)) (fun i x wr => 32 - (intOf i).toNat)
  case atStart => exact ⟨0, false, bs, by omega, rfl, rfl, hide (TurnedAt.start bs first p), HA, HK⟩
  case round =>
    obtain ⟨k, any, out, hk, rfl, rfl, HT, HAr, HKr⟩ := hrel
    by_cases hlt : k < 32
    · by_cases hpk : p.testBit k = true
      · have ht : (bits .and .u32 ((p : Int) / 2 ^ k) 1 == 1) = true := by rw [bit_test p k hp]; exact hpk
        by_cases hb : first + k < 8 * n
        · obtain ⟨q, hqq⟩ : ∃ q, (first + k) / 8 = q := ⟨_, rfl⟩
          obtain ⟨r, hrr⟩ : ∃ r, (first + k) % 8 = r := ⟨_, rfl⟩
          have hq : q < n := by omega
          have hr8 : r < 8 := by omega
          have hlen : out.length = n := by rw [HT.out.len]; exact HL.out
          have hy : out[q]? = some out[q] := List.getElem?_eq_getElem (by rw [hlen]; exact hq)
          have hc := HAr.out.at_ hy
          have HY := hide hy
          clear hy
          generalize out[q]'(by rw [hlen]; exact hq) = y at hc HY
          unfold B at hc
          have hfz := HAr.out.frozen q
          obtain ⟨x, hx, hbx⟩ := turn_byte y r hr8
          have HX := hide hx
          clear hx hlen
          have g0 : IntKind.i64.wrap ((first : Int) + k) = (first : Int) + k := IntWalk.i64_in _ (by omega)
          have g1 : IntKind.i64.wrap (((first : Int) + k).tdiv 8) = (q : Int) := by rw [IntWalk.i64_quo _ _ (by omega)]; omega
          have g2 : ((first : Int) + k).tmod 8 = (r : Int) := by rw [IntWalk.rem_in _ _ (by omega)]; omega
          have g3 : IntKind.u8.wrap (2 ^ r) = (2 ^ r : Int) := by
            have : r = 0 ∨ r = 1 ∨ r = 2 ∨ r = 3 ∨ r = 4 ∨ r = 5 ∨ r = 6 ∨ r = 7 := by omega
            rcases this with rfl | rfl | rfl | rfl | rfl | rfl | rfl | rfl <;> decide
          have HQQ := hide hqq
          have HRR := hide hrr
          clear hqq hrr
          go_wp2
          go_still_tail 19, (by kernel_rfl)
          change wpList _ _ _ _ _ (World.drew wr)
          go_wp2
          refine ⟨⟨k + 1, true, out.set q x, by omega, by go_num, rfl, hide ?_, hide (HAr.out.set_ x).drew, hide (HKr.out.set_ (.inr hg) _ _).drew⟩, by simp [intOf]; omega⟩
          have := HT.out.yes hpk (by have := HL.out; omega) y x (by rw [HQQ.out]; exact HY.out) (by rw [HRR.out]; exact HX.out)
          rwa [HQQ.out] at this
        · have hb' : ¬ ((first : Int) + k < 8 * n) := by omega
          go_wp2
          go_roundw
          case rel => exact ⟨k + 1, any, out, by omega, by go_num, rfl, hide (HT.out.no (.inr (by have := HL.out; omega))), HAr, HKr⟩
          case measure => simp [intOf]; omega
      · have ht : (bits .and .u32 ((p : Int) / 2 ^ k) 1 == 1) = false := by rw [bit_test p k hp]; exact (Bool.not_eq_true _).mp hpk
        go_wp2
        go_roundw
        case rel => exact ⟨k + 1, any, out, by omega, by go_num, rfl, hide (HT.out.no (.inl ((Bool.not_eq_true _).mp hpk))), HAr, HKr⟩
        case measure => simp [intOf]; omega
    · obtain rfl : k = 32 := by omega
      go_wp2
      go_ret2
      exact ⟨g, first, out, any, rfl, hg, HF.out, HT.out, HAr.out, HKr.out⟩
end Go.Proofs.Ytbglcnpkajkkpaa.crc
