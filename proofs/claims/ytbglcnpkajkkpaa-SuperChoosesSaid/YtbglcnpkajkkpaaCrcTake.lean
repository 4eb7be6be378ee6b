/- crc.take: one byte more in the register. -/
import Derived.Test.YtbglcnpkajkkpaaBase
import Derived.Test.YtbglcnpkajkkpaaCrcMath
import Derived.Laws.BitsAllLaws
namespace Go.Proofs.Ytbglcnpkajkkpaa.crc
open Go.RowKit Go.Proofs.Ytbglcnpkajkkpaa.mem Go.Proofs.Ytbglcnpkajkkpaa.base Go.Proofs.Ytbglcnpkajkkpaa.crcMath

theorem bits8_take (c : UInt8) (k : Nat) (h : k < 8) : (bits8 c).take (k + 1) = (bits8 c).take k ++ [c.toNat.testBit k] := by
  rw [List.take_add_one]
  congr 1
  simp [bits8, List.getElem?_map, List.getElem?_range h]

theorem crc_step (x : Nat) (c : UInt8) (k : Nat) (h : k < 8) : crcBits x ((bits8 c).take (k + 1)) = bstep (crcBits x ((bits8 c).take k)) ((c.toNat / 2 ^ k).testBit 0) := by
  rw [bits8_take c k h, crcBits_append, Nat.testBit_div_two_pow, Nat.zero_add]
  rfl

theorem crc_all (x : Nat) (c : UInt8) : crcBits x ((bits8 c).take 8) = crcBits x (bits8 c) := by
  rw [List.take_of_length_le (by simp [bits8])]

theorem bstep_next (y q : Nat) : bstep y (q.testBit 0) = if (y ^^^ q) % 2 = 1 then (y / 2) ^^^ poly else y / 2 := by
  have h1 : (y ^^^ (q.testBit 0).toNat) >>> 1 = y / 2 := by
    rw [Nat.shiftRight_xor_distrib, Nat.shiftRight_succ, Nat.shiftRight_succ]
    cases q.testBit 0 <;> simp
  have h2 : (y ^^^ (q.testBit 0).toNat).testBit 0 = (y ^^^ q).testBit 0 := by
    rw [Nat.testBit_xor, Nat.testBit_xor]
    congr 1
    cases q.testBit 0 <;> rfl
  unfold bstep zstep
  rw [h1, h2, Nat.testBit_zero]
  by_cases h : (y ^^^ q) % 2 = 1 <;> simp [h]

/-- The bit that goes out, as the program reckons it. -/
theorem out_bit (y q : Nat) (hy : y < 4294967296) (hq : q < 4294967296) : bits .and .u32 (bits .xor .u32 (y : Int) (q : Int)) 1 = (((y ^^^ q) % 2 : Nat) : Int) := by
  have hx : y ^^^ q < 4294967296 := Nat.xor_lt_two_pow (n := 32) hy hq
  rw [u32_xor_nat y q hy hq, show (1 : Int) = ((1 : Nat) : Int) from rfl, u32_and_nat _ _ hx (by omega)]
  congr 1
  exact Nat.and_one_is_mod _

/-- The register behind a bit, as the program reckons it. -/
theorem reg_yes (y q : Nat) (hy : y < 4294967296) (h : (y ^^^ q) % 2 = 1) : bits .xor .u32 ((y : Int) / 2) 2197175160 = (bstep y (q.testBit 0) : Int) := by
  rw [bstep_next, if_pos h, show (y : Int) / 2 = ((y / 2 : Nat) : Int) by omega, show (2197175160 : Int) = ((2197175160 : Nat) : Int) from rfl, u32_xor_nat _ _ (by omega) (by omega)]
  rfl
theorem reg_no (y q : Nat) (h : ¬ (y ^^^ q) % 2 = 1) : (y : Int) / 2 = (bstep y (q.testBit 0) : Int) := by
  rw [bstep_next, if_neg h]
  omega

theorem byte_shift (c : UInt8) (k : Nat) : ((c.toNat : Int) / 2 ^ k % 4294967296) = ((c.toNat / 2 ^ k : Nat) : Int) := by
  have h := c.toNat_lt
  have h2 : c.toNat / 2 ^ k ≤ c.toNat := Nat.div_le_self _ _
  have e : ((c.toNat : Int) / 2 ^ k) = ((c.toNat / 2 ^ k : Nat) : Int) := by simp
  rw [e]
  generalize c.toNat / 2 ^ k = q at *
  omega
theorem byte_shift_lt (c : UInt8) (k : Nat) : c.toNat / 2 ^ k < 4294967296 := by
  have h := c.toNat_lt
  have h2 : c.toNat / 2 ^ k ≤ c.toNat := Nat.div_le_self _ _
  generalize c.toNat / 2 ^ k = q at *
  omega

set_option maxRecDepth 100000 in
theorem take_any (x : Nat) (c : UInt8) (hx : x < 4294967296) (w : World) :
    Calls Try.prog 58 #[.int .u32 x, .int .u8 c.toNat] w fun e w' => e = .returned (.int .u32 (crcBits x (bits8 c))) ∧ w = w' := by
  go_enter Try.func58, Try.ntmps58
  go_wp2
  go_loop [7, 0] (fun i r => ∃ k : Nat, k ≤ 8 ∧ i = .int .i64 k ∧ r = .int .u32 (crcBits x ((bits8 c).take k))) (fun i _ => 8 - (intOf i).toNat)
  case atStart => exact ⟨0, by omega, rfl, rfl⟩
  case round =>
    obtain ⟨k, hk, rfl, rfl⟩ := hrel
    by_cases hlt : k < 8
    · have hy := crcBits_lt x ((bits8 c).take k) hx
      have hs := hide (crc_step x c k hlt)
      generalize crcBits x ((bits8 c).take k) = y at hy hs
      go_wp2
      · rename_i h
        rw [byte_shift, out_bit y _ hy (byte_shift_lt c k)] at h
        have h' : (y ^^^ c.toNat / 2 ^ k) % 2 = 1 := by have := beq_iff_eq.1 h; omega
        exact ⟨⟨k + 1, by omega, by go_num, by rw [hs.out, reg_yes y _ hy h']⟩, by simp [intOf]; omega⟩
      · rename_i h
        rw [byte_shift, out_bit y _ hy (byte_shift_lt c k)] at h
        have h' : ¬ (y ^^^ c.toNat / 2 ^ k) % 2 = 1 := by have := beq_eq_false_iff_ne.1 h; omega
        exact ⟨⟨k + 1, by omega, by go_num, by rw [hs.out, reg_no y _ h']⟩, by simp [intOf]; omega⟩
    · obtain rfl : k = 8 := by omega
      go_wp2
      go_ret
      exact ⟨congrArg (fun q : Nat => Ending.returned (.int .u32 q)) (crc_all x c), rfl⟩
end Go.Proofs.Ytbglcnpkajkkpaa.crc
