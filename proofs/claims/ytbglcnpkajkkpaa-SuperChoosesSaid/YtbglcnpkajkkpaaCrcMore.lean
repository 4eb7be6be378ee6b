/- crc.More: further bytes. -/
import Derived.Test.YtbglcnpkajkkpaaCrcTake
namespace Go.Proofs.Ytbglcnpkajkkpaa.crc
open Go.RowKit Go.Proofs.Ytbglcnpkajkkpaa.mem Go.Proofs.Ytbglcnpkajkkpaa.base Go.Proofs.Ytbglcnpkajkkpaa.crcMath

/-- The sum of the bytes behind those whose sum is s. -/
def more (s : Nat) (bs : List UInt8) : Nat := 4294967295 - crcBits (4294967295 - s) (allBits bs)

theorem allBits_snoc (bs : List UInt8) (k : Nat) (x : UInt8) (h : bs[k]? = some x) : allBits (bs.take (k + 1)) = allBits (bs.take k) ++ bits8 x := by
  rw [List.take_add_one, h, allBits_append]
  simp [allBits]

theorem more_step (r : Nat) (bs : List UInt8) (k : Nat) (x : UInt8) (h : bs[k]? = some x) : crcBits r (allBits (bs.take (k + 1))) = crcBits (crcBits r (allBits (bs.take k))) (bits8 x) := by
  rw [allBits_snoc bs k x h, crcBits_append]

theorem xor_ones (x : Nat) (h : x < 4294967296) : 4294967295 ^^^ x = 4294967295 - x := by
  apply Nat.eq_of_testBit_eq
  intro i
  rw [Nat.testBit_xor, show 4294967295 - x = 2 ^ 32 - (x + 1) by omega, Nat.testBit_two_pow_sub_succ (show x < 2 ^ 32 from h), show (4294967295 : Nat) = 2 ^ 32 - 1 from rfl, Nat.testBit_two_pow_sub_one]
  by_cases hi : i < 32
  · simp [hi]
  · have : x.testBit i = false := Nat.testBit_lt_two_pow (Nat.lt_of_lt_of_le (show x < 2 ^ 32 from h) (Nat.pow_le_pow_right (by decide) (by omega)))
    simp [hi, this]

theorem not_nat (x : Nat) (h : x < 4294967296) : bits .xor .u32 IntKind.u32.max (x : Int) = ((4294967295 - x : Nat) : Int) := by
  rw [show IntKind.u32.max = 4294967295 from rfl, show (4294967295 : Int) = ((4294967295 : Nat) : Int) from rfl, u32_xor_nat _ _ (by omega) h, xor_ones x h]

set_option maxRecDepth 100000 in
theorem more_any (s : Int) (A : Option Addr) (n c : Nat) (bs : List UInt8) (w : World) (hv : Vals w [] A (bs.map B)) (hl : bs.length = n) (hn : n ≤ 140737488355328) :
    Calls Try.prog 55 #[.int .i64 s, .slice A n c] w fun e w' => e = .returned (.int .i64 (more (s % 4294967296).toNat bs)) ∧ w = w' := by
  have HV := hide hv
  have HL := hide hl
  clear hv hl
  obtain ⟨q, hq⟩ : ∃ q : Nat, s % 4294967296 = q := ⟨(s % 4294967296).toNat, by omega⟩
  have hq2 : q < 4294967296 := by omega
  rw [hq, Int.toNat_natCast]
  have HQ := hide (not_nat q hq2)
  obtain ⟨r, hr⟩ : ∃ r : Nat, 4294967295 - q = r := ⟨_, rfl⟩
  have hr2 : r < 4294967296 := by omega
  have HR : Hid (more q bs = 4294967295 - crcBits r (allBits bs)) := hide (by unfold more; rw [hr])
  go_enter Try.func55, Try.ntmps55
  go_wp2
  rw [HQ.out, hr]
  clear HQ hr
  go_loop [13, 5] (fun i x => ∃ k : Nat, k ≤ n ∧ i = .int .i64 k ∧ x = .int .u32 (crcBits r (allBits (bs.take k)))) (fun i _ => n - (intOf i).toNat)
  case atStart => exact ⟨0, by omega, rfl, rfl⟩
  case round =>
    obtain ⟨k, hk, rfl, rfl⟩ := hrel
    have hy := crcBits_lt r (allBits (bs.take k)) hr2
    by_cases hlt : k < n
    · have hkl : k < bs.length := by rw [HL.out]; exact hlt
      have hx : bs[k]? = some bs[k] := List.getElem?_eq_getElem hkl
      have hs := hide (more_step r bs k _ hx)
      obtain ⟨ad, rfl, hn, hc⟩ := HV.out k (B bs[k]) (by simp [hkl])
      unfold B at hc
      generalize crcBits r (allBits (bs.take k)) = y at hy hs
      generalize bs[k] = b at hs hc
      go_wp2_with (go_at_call 58; refine (take_any _ _ hy _).mono ?_; rintro e w' ⟨rfl, rfl⟩)
      exact ⟨⟨k + 1, by omega, by go_num, by rw [hs.out]⟩, by simp [intOf]; omega⟩
    · obtain rfl : k = n := by omega
      have hz := hide (show crcBits r (allBits (bs.take k)) = crcBits r (allBits bs) by rw [List.take_of_length_le (by rw [HL.out]; exact Nat.le_refl _)])
      rw [hz.out] at hy ⊢
      have HN := hide (not_nat _ hy)
      clear hz
      go_wp2
      rw [HN.out, IntWalk.wrap64_in _ (by omega)]
      go_ret
      exact ⟨congrArg (fun q : Nat => Ending.returned (.int .i64 q)) HR.out.symm, rfl⟩
end Go.Proofs.Ytbglcnpkajkkpaa.crc
