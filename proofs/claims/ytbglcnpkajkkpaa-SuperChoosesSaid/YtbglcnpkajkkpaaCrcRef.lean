/- The reference's More and Sum. -/
import Derived.Test.YtbglcnpkajkkpaaCrcSum
namespace Go.Proofs.Ytbglcnpkajkkpaa.crc
open Go.RowKit Go.Proofs.Ytbglcnpkajkkpaa.mem Go.Proofs.Ytbglcnpkajkkpaa.base Go.Proofs.Ytbglcnpkajkkpaa.crcMath

theorem shr_next (b : UInt8) (j : Nat) : ((b.toNat / 2 ^ j : Nat) : Int) / 2 = ((b.toNat / 2 ^ (j + 1) : Nat) : Int) := by
  rw [Nat.pow_succ, ← Nat.div_div_eq_div_mul]
  generalize b.toNat / 2 ^ j = q
  omega

set_option maxRecDepth 100000 in
theorem rmore_any (s : Int) (A : Option Addr) (n c : Nat) (bs : List UInt8) (w : World) (hv : Vals w [] A (bs.map B)) (hl : bs.length = n) (hn : n ≤ 140737488355328) :
    Calls Try.prog 56 #[.int .i64 s, .slice A n c] w fun e w' => e = .returned (.int .i64 (more (s % 4294967296).toNat bs)) ∧ w = w' := by
  have HV := hide hv
  have HL := hide hl
  clear hv hl
  obtain ⟨q, hq⟩ : ∃ q : Nat, s % 4294967296 = q := ⟨(s % 4294967296).toNat, by omega⟩
  have hq2 : q < 4294967296 := by omega
  have hmod := mod_any s 4294967296 w (by omega) (by omega)
  rw [hq] at hmod
  rw [hq, Int.toNat_natCast]
  have HQ := hide (not_nat q hq2)
  obtain ⟨r, hr⟩ : ∃ r : Nat, 4294967295 - q = r := ⟨_, rfl⟩
  have hr2 : r < 4294967296 := by omega
  have HR : Hid (more q bs = 4294967295 - crcBits r (allBits bs)) := hide (by unfold more; rw [hr])
  have hqm : ((q : Int) % 4294967296) = q := by omega
  have HM := hide hmod
  clear hmod hq
  go_enter Try.func56, Try.ntmps56
  go_wp2_with fail
  refine HM.out.mono ?_
  rintro e w' ⟨rfl, rfl⟩
  go_wp2
  rw [HQ.out, hr]
  clear HQ hr HM hqm
  go_loop [6, 5] (fun i x => ∃ k : Nat, k ≤ n ∧ i = .int .i64 k ∧ x = .int .u32 (crcBits r (allBits (bs.take k)))) (fun i _ => n - (intOf i).toNat)
  case atStart => exact ⟨0, by omega, rfl, rfl⟩
  case round =>
    obtain ⟨k, hk, rfl, rfl⟩ := hrel
    have hy := crcBits_lt r (allBits (bs.take k)) hr2
    by_cases hlt : k < n
    · have hkl : k < bs.length := by rw [HL.out]; exact hlt
      have hx : bs[k]? = some bs[k] := List.getElem?_eq_getElem hkl
      have hs := hide (more_step r bs k _ hx)
      obtain ⟨ad, rfl, hn, hc⟩ := HV.out k (B bs[k]) (by simp [hkl])
      unfold B at hc
      generalize crcBits r (allBits (bs.take k)) = y at hy hs
      generalize bs[k] = b at hs hc
      have hb := b.toNat_lt
      have hbm : ((b.toNat : Int) % 4294967296) = b.toNat := by omega
      go_wp2
      go_loop [8, 5, 7] (fun i x d => ∃ j : Nat, j ≤ 8 ∧ i = .int .i64 j ∧ x = .int .u32 (crcBits y ((bits8 b).take j)) ∧ d = .int .u32 ((b.toNat / 2 ^ j : Nat) : Int)) (fun i _ _ => 8 - (intOf i).toNat)
      case atStart => exact ⟨0, by omega, rfl, rfl, by simp⟩
      case round =>
        obtain ⟨j, hj, rfl, rfl, rfl⟩ := hrel
        have hz := crcBits_lt y ((bits8 b).take j) hy
        by_cases hlj : j < 8
        · have hs2 := hide (crc_step y b j hlj)
          have hbs := byte_shift_lt b j
          have hsn := hide (shr_next b j)
          generalize crcBits y ((bits8 b).take j) = z at hz hs2
          generalize b.toNat / 2 ^ j = d at hs2 hbs hsn
          have hob := hide (out_bit z d hz hbs)
          go_wp2
          · rename_i h
            rw [hob.out] at h
            have h' : (z ^^^ d) % 2 = 1 := by have := beq_iff_eq.1 h; omega
            exact ⟨⟨j + 1, by omega, by go_num, by rw [hs2.out, reg_yes z _ hz h'], by rw [hsn.out]⟩, by simp [intOf]; omega⟩
          · rename_i h
            rw [hob.out] at h
            have h' : ¬ (z ^^^ d) % 2 = 1 := by have := beq_eq_false_iff_ne.1 h; omega
            exact ⟨⟨j + 1, by omega, by go_num, by rw [hs2.out, reg_no z _ h'], by rw [hsn.out]⟩, by simp [intOf]; omega⟩
        · obtain rfl : j = 8 := by omega
          have ha := hide (crc_all y b)
          rw [ha.out]
          clear ha
          go_wp2
          exact ⟨⟨k + 1, by omega, by go_num, by rw [hs.out]⟩, by simp [intOf]; omega⟩
    · obtain rfl : k = n := by omega
      have hz := hide (show crcBits r (allBits (bs.take k)) = crcBits r (allBits bs) by rw [List.take_of_length_le (by rw [HL.out]; exact Nat.le_refl _)])
      rw [hz.out] at hy ⊢
      have HN := hide (not_nat _ hy)
      clear hz
      go_wp2
      rw [HN.out, IntWalk.wrap64_in _ (by omega)]
      go_ret
      exact ⟨congrArg (fun q : Nat => Ending.returned (.int .i64 q)) HR.out.symm, rfl⟩

set_option maxRecDepth 100000 in
theorem rsum_any (A : Option Addr) (n c : Nat) (bs : List UInt8) (w : World) (hv : Vals w [] A (bs.map B)) (hl : bs.length = n) (hn : n ≤ 140737488355328) :
    Calls Try.prog 48 #[.slice A n c] w fun e w' => e = .returned (.int .i64 (more 0 bs)) ∧ w = w' := by
  have h := rmore_any 0 A n c bs w hv hl hn
  rw [show ((0 : Int) % 4294967296).toNat = 0 by decide] at h
  have H := hide h
  clear h
  go_enter Try.func48, Try.ntmps48
  go_wp2_with fail
  refine H.out.mono ?_
  rintro e w' ⟨rfl, rfl⟩
  go_wp2
  go_ret
  exact ⟨rfl, rfl⟩
end Go.Proofs.Ytbglcnpkajkkpaa.crc
