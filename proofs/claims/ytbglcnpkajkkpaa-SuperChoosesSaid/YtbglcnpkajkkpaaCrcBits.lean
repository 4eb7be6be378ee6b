/- The mathematics of bits that are turned in bytes; no walk in it. -/
import Derived.Test.YtbglcnpkajkkpaaCrcMore
import Derived.Test.YtbglcnpkajkkpaaCrcSum
namespace Go.Proofs.Ytbglcnpkajkkpaa.crc
open Go.RowKit Go.Proofs.Ytbglcnpkajkkpaa.mem Go.Proofs.Ytbglcnpkajkkpaa.base Go.Proofs.Ytbglcnpkajkkpaa.crcMath

/-- Bit i of bytes, byte by byte, in each the lowest first. -/
def bitAt (bs : List UInt8) (i : Nat) : Bool := ((bs[i / 8]?).getD 0).toNat.testBit (i % 8)

theorem bits8_get (c : UInt8) (i : Nat) (h : i < 8) : (bits8 c)[i]? = some (c.toNat.testBit i) := by
  simp [bits8, List.getElem?_map, List.getElem?_range h]
theorem allBits_get : ∀ (bs : List UInt8) (i : Nat), i < 8 * bs.length → (allBits bs)[i]? = some (bitAt bs i) := by
  intro bs
  induction bs with
  | nil => intro i h; simp at h
  | cons c l ih =>
    intro i h
    have e : allBits (c :: l) = bits8 c ++ allBits l := rfl
    have hl : (bits8 c).length = 8 := by simp [bits8]
    rw [e]
    rcases Nat.lt_or_ge i 8 with h8 | h8
    · rw [List.getElem?_append_left (by omega), bits8_get c i h8]
      unfold bitAt
      rw [Nat.div_eq_of_lt h8, Nat.mod_eq_of_lt h8]
      rfl
    · rw [List.getElem?_append_right (by omega), hl, ih (i - 8) (by simp only [List.length_cons] at h; omega)]
      unfold bitAt
      rw [show (i - 8) % 8 = i % 8 by omega, show i / 8 = (i - 8) / 8 + 1 by omega, List.getElem?_cons_succ]

theorem bitAt_turn (bs : List UInt8) (j : Nat) (y x : UInt8) (hy : bs[j / 8]? = some y) (hx : x.toNat = y.toNat ^^^ 2 ^ (j % 8)) (i : Nat) :
    bitAt (bs.set (j / 8) x) i = (bitAt bs i ^^ decide (i = j)) := by
  have hj := (List.getElem?_eq_some_iff.1 hy).1
  unfold bitAt
  rw [List.getElem?_set]
  by_cases h : j / 8 = i / 8
  · rw [if_pos h, if_pos hj, ← h, hy]
    simp only [Option.getD_some]
    rw [hx, Nat.testBit_xor, Nat.testBit_two_pow]
    congr 1
    by_cases h2 : j % 8 = i % 8
    · have : i = j := by omega
      simp [this]
    · have : ¬ i = j := by omega
      simp [this, h2]
  · rw [if_neg h]
    have : ¬ i = j := by rintro rfl; exact h rfl
    simp [this]

/-- Which bits the first k of a pattern turn. -/
def msk (first p k i : Nat) : Bool := decide (first ≤ i) && (decide (i < first + k) && p.testBit (i - first))
theorem msk_zero (first p i : Nat) : msk first p 0 i = false := by
  unfold msk
  by_cases h1 : first ≤ i
  · have h2 : ¬ i < first + 0 := by omega
    rw [decide_eq_false h2, Bool.false_and, Bool.and_false]
  · simp [h1]
theorem msk_yes (first p k i : Nat) (h : p.testBit k = true) : msk first p (k + 1) i = (msk first p k i ^^ decide (i = first + k)) := by
  unfold msk
  by_cases h1 : first ≤ i
  · by_cases h2 : i < first + k
    · have h3 : i < first + (k + 1) := by omega
      have h4 : ¬ i = first + k := by omega
      simp [h1, h2, h3, h4]
    · by_cases h4 : i = first + k
      · subst h4
        have h5 : first + k - first = k := by omega
        simp [h5, h]
      · have h3 : ¬ i < first + (k + 1) := by omega
        simp [h2, h3, h4]
  · have h4 : ¬ i = first + k := by omega
    simp [h1, h4]
theorem msk_no (first p k i : Nat) (h : p.testBit k = false ∨ i < first + k) : msk first p (k + 1) i = msk first p k i := by
  unfold msk
  by_cases h1 : first ≤ i
  · by_cases h2 : i < first + k
    · have h3 : i < first + (k + 1) := by omega
      simp [h2, h3]
    · by_cases h4 : i = first + k
      · subst h4
        have h5 : first + k - first = k := by omega
        rcases h with h | h
        · simp [h5, h]
        · omega
      · have h3 : ¬ i < first + (k + 1) := by omega
        simp [h2, h3]
  · simp [h1]
theorem msk_at (first p k : Nat) (h : p.testBit k = true) : msk first p (k + 1) (first + k) = true := by
  unfold msk
  have h5 : first + k - first = k := by omega
  simp [h5, h]

/-- Bytes with the first k bits of a pattern turned; was any? -/
structure TurnedAt (bs out : List UInt8) (first p k : Nat) (any : Bool) : Prop where
  len : out.length = bs.length
  bit : ∀ i, i < 8 * bs.length → bitAt out i = (bitAt bs i ^^ msk first p k i)
  any : any = true ↔ ∃ i, i < 8 * bs.length ∧ msk first p k i = true

theorem TurnedAt.start (bs : List UInt8) (first p : Nat) : TurnedAt bs bs first p 0 false :=
  ⟨rfl, fun i _ => by rw [msk_zero]; simp, by
    constructor
    · intro h; cases h
    · rintro ⟨i, _, h⟩
      rw [msk_zero] at h
      cases h⟩
theorem TurnedAt.yes {bs out : List UInt8} {first p k : Nat} {any : Bool} (h : TurnedAt bs out first p k any) (hp : p.testBit k = true) (hk : first + k < 8 * bs.length) (y x : UInt8) (hy : out[(first + k) / 8]? = some y) (hx : x.toNat = y.toNat ^^^ 2 ^ ((first + k) % 8)) :
    TurnedAt bs (out.set ((first + k) / 8) x) first p (k + 1) true :=
  ⟨by rw [List.length_set]; exact h.len, fun i hi => by
    rw [bitAt_turn out (first + k) y x hy hx i, h.bit i hi, msk_yes first p k i hp, Bool.xor_assoc], by
    constructor
    · exact fun _ => ⟨first + k, hk, msk_at first p k hp⟩
    · exact fun _ => rfl⟩
theorem TurnedAt.no {bs out : List UInt8} {first p k : Nat} {any : Bool} (h : TurnedAt bs out first p k any) (hp : p.testBit k = false ∨ 8 * bs.length ≤ first + k) : TurnedAt bs out first p (k + 1) any := by
  have e : ∀ i, i < 8 * bs.length → msk first p (k + 1) i = msk first p k i := fun i hi => msk_no first p k i (hp.imp id (fun h => by omega))
  refine ⟨h.len, fun i hi => by rw [e i hi]; exact h.bit i hi, h.any.trans ⟨?_, ?_⟩⟩
  · rintro ⟨i, hi, hm⟩
    exact ⟨i, hi, by rw [e i hi]; exact hm⟩
  · rintro ⟨i, hi, hm⟩
    exact ⟨i, hi, by rw [← e i hi]; exact hm⟩

/-- All bits: 1 where one is turned. -/
def errBits (n first p : Nat) : List Bool := (List.range n).map (msk first p 32)

theorem TurnedAt.bits {bs out : List UInt8} {first p : Nat} {any : Bool} (h : TurnedAt bs out first p 32 any) : allBits out = List.zipWith (· ^^ ·) (allBits bs) (errBits (8 * bs.length) first p) := by
  apply List.ext_getElem?
  intro i
  rcases Nat.lt_or_ge i (8 * bs.length) with hi | hi
  · rw [allBits_get out i (by rw [h.len]; exact hi), List.getElem?_zipWith, allBits_get bs i hi]
    simp only [errBits, List.getElem?_map, List.getElem?_range hi, Option.map_some]
    rw [h.bit i hi]
  · rw [List.getElem?_eq_none (by rw [allBits_length, h.len]; exact hi), List.getElem?_eq_none]
    rw [List.length_zipWith, allBits_length]
    omega

theorem err_split (n first p : Nat) (h : first ≤ n) : errBits n first p = List.replicate first false ++ ((List.range (min 32 (n - first))).map p.testBit ++ List.replicate (n - first - min 32 (n - first)) false) := by
  apply List.ext_getElem?
  intro i
  obtain ⟨m, hm⟩ : ∃ m, m = min 32 (n - first) := ⟨_, rfl⟩
  rw [← hm]
  rcases Nat.lt_or_ge i n with hi | hi
  · simp only [errBits, List.getElem?_map, List.getElem?_range hi, Option.map_some]
    unfold msk
    rcases Nat.lt_or_ge i first with h1 | h1
    · rw [List.getElem?_append_left (by simpa using h1), List.getElem?_replicate, if_pos h1]
      have : ¬ first ≤ i := by omega
      simp [this]
    · rw [List.getElem?_append_right (by simpa using h1), List.length_replicate]
      rcases Nat.lt_or_ge (i - first) m with h2 | h2
      · rw [List.getElem?_append_left (by simpa using h2), List.getElem?_map, List.getElem?_range h2]
        have h3 : i < first + 32 := by omega
        simp [h1, h3]
      · rw [List.getElem?_append_right (by simpa using h2), List.getElem?_replicate, if_pos (by simp; omega)]
        have h3 : ¬ i < first + 32 := by omega
        simp [h3]
  · rw [List.getElem?_eq_none (by simpa [errBits] using hi), List.getElem?_eq_none]
    simp
    omega

theorem err_length (n first p : Nat) : (errBits n first p).length = n := by simp [errBits]

theorem TurnedAt.crc {bs out : List UInt8} {first p : Nat} {any : Bool} (h : TurnedAt bs out first p 32 any) (r : Nat) : crcBits r (allBits out) = crcBits r (allBits bs) ^^^ crcBits 0 (errBits (8 * bs.length) first p) := by
  rw [h.bits, crcMath.turned _ _ _ (by rw [allBits_length, err_length])]

theorem TurnedAt.crc_zero {bs out : List UInt8} {first p : Nat} {any : Bool} (h : TurnedAt bs out first p 32 any) (hf : first < 8 * bs.length) : crcBits 0 (errBits (8 * bs.length) first p) = 0 ↔ any = false := by
  cases any with
  | false =>
    have hno : ∀ i, i < 8 * bs.length → msk first p 32 i = false := by
      intro i hi
      rw [← Bool.not_eq_true]
      intro hm
      have := h.any.2 ⟨i, hi, hm⟩
      cases this
    have e : errBits (8 * bs.length) first p = List.replicate (8 * bs.length) false := by
      apply List.ext_getElem?
      intro i
      rcases Nat.lt_or_ge i (8 * bs.length) with hi | hi
      · simp only [errBits, List.getElem?_map, List.getElem?_range hi, Option.map_some, List.getElem?_replicate, if_pos hi, hno i hi]
      · rw [List.getElem?_eq_none (by rw [err_length]; exact hi), List.getElem?_eq_none (by simpa using hi)]
    rw [e, crcBits_zeros, zsteps_zero]
    simp
  | true =>
    obtain ⟨i, hi, hm⟩ := h.any.1 rfl
    constructor
    · intro hz
      exfalso
      rw [err_split _ _ _ (by omega)] at hz
      refine burst first _ _ (by simp; omega) ?_ hz
      unfold msk at hm
      simp only [Bool.and_eq_true, decide_eq_true_eq] at hm
      exact ⟨_, List.mem_map.2 ⟨i - first, List.mem_range.2 (by omega), rfl⟩, hm.2.2⟩
    · intro h; cases h

theorem xor_self_iff (a e : Nat) : a ^^^ e = a ↔ e = 0 := by
  constructor
  · intro h
    have := congrArg (a ^^^ ·) h
    simpa [← Nat.xor_assoc] using this
  · rintro rfl
    simp

/-- What is turned has another sum, just if any bit is. -/
theorem TurnedAt.sum {bs out : List UInt8} {first p : Nat} {any : Bool} (h : TurnedAt bs out first p 32 any) (hf : first < 8 * bs.length) : more 0 out = more 0 bs ↔ any = false := by
  rw [← h.crc_zero hf, ← xor_self_iff (crcBits 4294967295 (allBits bs)), ← h.crc]
  unfold more
  have h1 := crcBits_lt 4294967295 (allBits out) (by omega)
  have h2 := crcBits_lt 4294967295 (allBits bs) (by omega)
  simp only [Nat.sub_zero]
  generalize crcBits 4294967295 (allBits out) = X at h1
  generalize crcBits 4294967295 (allBits bs) = Y at h2
  omega

/-- The difference hangs on the turned bits alone. -/
theorem TurnedAt.diff {bs out : List UInt8} {first p : Nat} {any : Bool} (h : TurnedAt bs out first p 32 any) : more 0 out ^^^ more 0 bs = crcBits 0 (errBits (8 * bs.length) first p) := by
  have h1 := crcBits_lt 4294967295 (allBits out) (by omega)
  have h2 := crcBits_lt 4294967295 (allBits bs) (by omega)
  have h3 := h.crc 4294967295
  unfold more
  simp only [Nat.sub_zero]
  generalize crcBits 4294967295 (allBits out) = X at h1 h3
  generalize crcBits 4294967295 (allBits bs) = Y at h2 h3
  rw [← xor_ones X h1, ← xor_ones Y h2, xor4, Nat.xor_self, Nat.zero_xor, h3, Nat.xor_comm Y, Nat.xor_assoc, Nat.xor_self, Nat.xor_zero]
end Go.Proofs.Ytbglcnpkajkkpaa.crc
