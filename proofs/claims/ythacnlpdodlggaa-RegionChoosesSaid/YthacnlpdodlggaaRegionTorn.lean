/- Bytes with one bit turned are no region. -/
import Derived.Test.YthacnlpdodlggaaRegionAwake
import Derived.Test.YthacnlpdodlggaaCrcCore
namespace Go.Proofs.Ythacnlpdodlggaa.rg
open Go.RowKit Go.Proofs.Ythacnlpdodlggaa.mem Go.Proofs.Ythacnlpdodlggaa.base Go.Proofs.Ythacnlpdodlggaa.row Go.Proofs.Ythacnlpdodlggaa.crc Go.Proofs.Ythacnlpdodlggaa.super

theorem one_bit (k : Nat) (h : 1 ≤ k) : (1 : Nat).testBit k = false := by
  obtain ⟨j, rfl⟩ : ∃ j, k = j + 1 := ⟨k - 1, by omega⟩
  rw [Nat.testBit_succ]
  simp
theorem turned_more {bs out : List UInt8} {first : Nat} (h : TurnedAt bs out first 1 1 true) : ∀ m, TurnedAt bs out first 1 (1 + m) true
  | 0 => h
  | m + 1 => (turned_more h m).no (.inl (one_bit (1 + m) (by omega)))

theorem xor_four (y : UInt8) : ∃ v : UInt8, bits .xor .u8 (y.toNat : Int) 4 = (v.toNat : Int) ∧ v.toNat = y.toNat ^^^ 4 := by
  obtain ⟨x, h1, h2⟩ := turn_byte y 2 (by omega)
  rw [show (2 : Int) ^ 2 = 4 from rfl] at h2
  exact ⟨x, h2, h1⟩
theorem xor_one (y : UInt8) : ∃ v : UInt8, bits .xor .u8 (y.toNat : Int) 1 = (v.toNat : Int) ∧ v.toNat = y.toNat ^^^ 1 := by
  obtain ⟨x, h1, h2⟩ := turn_byte y 0 (by omega)
  rw [show (2 : Int) ^ 0 = 1 from rfl] at h2
  exact ⟨x, h2, h1⟩

theorem decode_first {D : Dv} {R : Rg} (h : D.ok) (hg : Good D R) (y v : UInt8) (hy : (R.bytes D)[2]? = some y) (hv : v.toNat = y.toNat ^^^ 4) : decode D ((R.bytes D).set 2 v) = (Rg.zero, 2) := by
  have hl := Rg.body_len h hg
  have hb := h.bd
  have hy' : (R.body D)[(18 + 0) / 8]? = some y := by
    rw [Rg.bytes, List.getElem?_append_left (by omega)] at hy
    exact hy
  have h1 := (TurnedAt.start (R.body D) 18 1).yes (k := 0) rfl (by omega) y v hy' (by rw [hv])
  have h2 := turned_more h1 31
  have e : (R.bytes D).set 2 v = (R.body D).set ((18 + 0) / 8) v ++ sumOf (R.body D) := by
    rw [Rg.bytes, List.set_append_left _ _ (by omega)]
  rw [e]
  rcases decode_or D ((R.body D).set ((18 + 0) / 8) v ++ sumOf (R.body D)) with ⟨T, _, _, h3⟩ | h3
  · have := decode_turned h hg _ 18 1 true h2 (by omega) T 0 h3
    simp at this
  · exact h3
theorem decode_last {D : Dv} {R : Rg} (h : D.ok) (hg : Good D R) (m : Nat) (hm : m + 1 = 64 * D.r) (y v : UInt8) (hy : (R.bytes D)[m]? = some y) (hv : v.toNat = y.toNat ^^^ 1) : decode D ((R.bytes D).set m v) = (Rg.zero, 2) := by
  have hl := Rg.body_len h hg
  have hb := h.bd
  have e : (R.bytes D).set m v = R.body D ++ (sumOf (R.body D)).set (m - (R.body D).length) v := by
    rw [Rg.bytes, List.set_append_right _ _ (by omega)]
  rw [e]
  refine decode_sum h hg _ fun e2 => ?_
  rw [Rg.bytes, List.getElem?_append_right (by omega)] at hy
  have h4 : m - (R.body D).length < (sumOf (R.body D)).length := by rw [sumOf_len]; omega
  have h5 : ((sumOf (R.body D)).set (m - (R.body D).length) v)[m - (R.body D).length]? = some v := List.getElem?_set_self h4
  rw [e2, hy, Option.some.injEq] at h5
  rw [← h5] at hv
  have h6 : y.toNat ^^^ (y.toNat ^^^ 1) = 0 := by rw [← hv]; exact Nat.xor_self _
  rw [← Nat.xor_assoc, Nat.xor_self, Nat.zero_xor] at h6
  cases h6
end Go.Proofs.Ythacnlpdodlggaa.rg
