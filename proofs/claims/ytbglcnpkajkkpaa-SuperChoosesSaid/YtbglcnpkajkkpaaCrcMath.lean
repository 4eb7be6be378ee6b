/- The mathematics of chapter 2's sum: one step for a bit, its linearity, that it forgets nothing; no program in it. -/
namespace Go.Proofs.Ytbglcnpkajkkpaa.crcMath

def poly : Nat := 2197175160
/-- A bit 0 comes in. -/
def zstep (x : Nat) : Nat := (x >>> 1) ^^^ (if x.testBit 0 then poly else 0)
/-- A bit comes in. -/
def bstep (x : Nat) (b : Bool) : Nat := zstep (x ^^^ b.toNat)
def crcBits (x : Nat) (l : List Bool) : Nat := l.foldl bstep x
/-- A byte's bits, the lowest first. -/
def bits8 (c : UInt8) : List Bool := (List.range 8).map c.toNat.testBit
def allBits (l : List UInt8) : List Bool := l.flatMap bits8
/-- So many steps with bits 0. -/
def zsteps : Nat → Nat → Nat
  | 0, x => x
  | n + 1, x => zsteps n (zstep x)

theorem xor4 (a b c d : Nat) : (a ^^^ b) ^^^ (c ^^^ d) = (a ^^^ c) ^^^ (b ^^^ d) := by
  rw [Nat.xor_assoc, ← Nat.xor_assoc b, Nat.xor_comm b c, Nat.xor_assoc c, ← Nat.xor_assoc]

theorem zstep_xor (x y : Nat) : zstep (x ^^^ y) = zstep x ^^^ zstep y := by
  unfold zstep
  rw [Nat.shiftRight_xor_distrib, Nat.testBit_xor, xor4]
  congr 1
  cases x.testBit 0 <;> cases y.testBit 0 <;> simp

theorem toNat_xor (a b : Bool) : (a ^^ b).toNat = a.toNat ^^^ b.toNat := by cases a <;> cases b <;> rfl

theorem bstep_xor (x y : Nat) (a b : Bool) : bstep (x ^^^ y) (a ^^ b) = bstep x a ^^^ bstep y b := by
  unfold bstep
  rw [toNat_xor, xor4, zstep_xor]

theorem crcBits_xor (x y : Nat) : ∀ (l m : List Bool), l.length = m.length → crcBits (x ^^^ y) (List.zipWith (· ^^ ·) l m) = crcBits x l ^^^ crcBits y m := by
  intro l
  induction l generalizing x y with
  | nil => intro m h; cases m with
    | nil => rfl
    | cons b m => simp at h
  | cons a l ih =>
    intro m h
    cases m with
    | nil => simp at h
    | cons b m =>
      simp only [List.zipWith_cons_cons, crcBits, List.foldl_cons]
      rw [bstep_xor]
      exact ih _ _ m (by simpa using h)

theorem crcBits_append (x : Nat) (l m : List Bool) : crcBits x (l ++ m) = crcBits (crcBits x l) m := by simp [crcBits, List.foldl_append]

theorem zstep_zero : zstep 0 = 0 := rfl
theorem bstep_false (x : Nat) : bstep x false = zstep x := by simp [bstep]
theorem crcBits_zeros (x n : Nat) : crcBits x (List.replicate n false) = zsteps n x := by
  induction n generalizing x with
  | zero => rfl
  | succ n ih => rw [List.replicate_succ]; simp only [crcBits, List.foldl_cons, bstep_false]; exact ih _
theorem zsteps_zero (n : Nat) : zsteps n 0 = 0 := by
  induction n with
  | zero => rfl
  | succ n ih => exact ih
theorem zsteps_xor (n x y : Nat) : zsteps n (x ^^^ y) = zsteps n x ^^^ zsteps n y := by
  induction n generalizing x y with
  | zero => rfl
  | succ n ih => simp only [zsteps, zstep_xor, ih]

theorem shr_lt (x : Nat) (h : x < 2 ^ 32) : x >>> 1 < 2 ^ 31 := by rw [Nat.shiftRight_succ]; simp; omega
theorem zstep_lt (x : Nat) (h : x < 2 ^ 32) : zstep x < 2 ^ 32 := by
  unfold zstep
  refine Nat.xor_lt_two_pow (by have := shr_lt x h; omega) ?_
  split <;> decide
theorem bstep_lt (x : Nat) (b : Bool) (h : x < 2 ^ 32) : bstep x b < 2 ^ 32 :=
  zstep_lt _ (Nat.xor_lt_two_pow h (by cases b <;> decide))
theorem crcBits_lt (x : Nat) (l : List Bool) (h : x < 2 ^ 32) : crcBits x l < 2 ^ 32 := by
  induction l generalizing x with
  | nil => exact h
  | cons b l ih => exact ih _ (bstep_lt x b h)

/-- Nothing is forgotten: what becomes 0 was 0. -/
theorem zstep_inj (x : Nat) (h : x < 2 ^ 32) (hz : zstep x = 0) : x = 0 := by
  unfold zstep at hz
  have hs := shr_lt x h
  by_cases hb : x.testBit 0
  · rw [if_pos hb] at hz
    have : x >>> 1 = poly := by
      have := congrArg (· ^^^ poly) hz
      simpa [Nat.xor_assoc] using this
    rw [this] at hs
    exact absurd hs (by decide)
  · rw [if_neg hb, Nat.xor_zero] at hz
    have h2 : x % 2 = 0 := by
      rw [Nat.testBit_zero] at hb
      simp at hb
      omega
    rw [Nat.shiftRight_succ] at hz
    simp at hz
    omega
theorem zsteps_inj (n x : Nat) (h : x < 2 ^ 32) (hz : zsteps n x = 0) : x = 0 := by
  induction n generalizing x with
  | zero => exact hz
  | succ n ih => exact zstep_inj x h (ih _ (zstep_lt x h) hz)

/-- Bits as a number, the first the lowest. -/
def numBits : List Bool → Nat
  | [] => 0
  | b :: l => b.toNat + 2 * numBits l
theorem numBits_lt (l : List Bool) : numBits l < 2 ^ l.length := by
  induction l with
  | nil => decide
  | cons b l ih => rw [numBits, List.length_cons, Nat.pow_succ]; cases b <;> simp <;> omega
theorem numBits_zero (l : List Bool) (h : numBits l = 0) : ∀ b ∈ l, b = false := by
  induction l with
  | nil => simp
  | cons b l ih =>
    rw [numBits] at h
    intro c hc
    rcases List.mem_cons.1 hc with rfl | hc
    · cases c
      · rfl
      · simp at h
    · exact ih (by omega) c hc

theorem one_xor (v : Nat) : 1 + 2 * v = 1 ^^^ (2 * v) := by
  apply Nat.eq_of_testBit_eq
  intro i
  rw [Nat.testBit_xor]
  cases i with
  | zero =>
    have h1 : (1 + 2 * v) % 2 = 1 := by omega
    simp [Nat.testBit_zero, h1]
  | succ i =>
    rw [Nat.testBit_succ, Nat.testBit_succ, Nat.testBit_succ, show (1 + 2 * v) / 2 = v by omega, show 2 * v / 2 = v by omega]
    simp

theorem zstep_double (b : Bool) (v x : Nat) : zstep (x ^^^ (b.toNat + 2 * v)) = bstep x b ^^^ v := by
  have e : b.toNat + 2 * v = b.toNat ^^^ (2 * v) := by
    cases b
    · simp
    · simp only [Bool.toNat_true]
      exact one_xor v
  rw [e, ← Nat.xor_assoc, zstep_xor]
  congr 1
  unfold zstep
  rw [Nat.shiftRight_succ]
  simp

/-- Up to 32 bits that come in are as good as laid over the register first. -/
theorem crcBits_num : ∀ (l : List Bool) (x : Nat), l.length ≤ 32 → crcBits x l = zsteps l.length (x ^^^ numBits l) := by
  intro l
  induction l with
  | nil => intro x _; simp [crcBits, zsteps, numBits]
  | cons b l ih =>
    intro x h
    simp only [List.length_cons] at h
    have hv : numBits l < 2 ^ 31 := Nat.lt_of_lt_of_le (numBits_lt l) (Nat.pow_le_pow_right (by decide) (by omega))
    simp only [crcBits, List.foldl_cons, List.length_cons, zsteps, numBits]
    rw [zstep_double b _ x]
    exact ih _ (by omega)

/-- Up to 32 bits, anywhere, not all 0: the register is not 0 behind them and any number of bits 0. -/
theorem burst (pre post : Nat) (p : List Bool) (hp : p.length ≤ 32) (h : ∃ b ∈ p, b = true) : crcBits 0 (List.replicate pre false ++ (p ++ List.replicate post false)) ≠ 0 := by
  rw [crcBits_append, crcBits_append, crcBits_zeros, crcBits_zeros, zsteps_zero, crcBits_num p 0 hp, Nat.zero_xor]
  have hlt : numBits p < 2 ^ 32 := Nat.lt_of_lt_of_le (numBits_lt p) (Nat.pow_le_pow_right (by decide) hp)
  have hz : ∀ n x, x < 2 ^ 32 → zsteps n x < 2 ^ 32 := by
    intro n
    induction n with
    | zero => exact fun x h => h
    | succ n ih => exact fun x h => ih _ (zstep_lt x h)
  intro e
  have e1 := zsteps_inj _ _ (hz _ _ hlt) e
  have e2 := zsteps_inj _ _ hlt e1
  obtain ⟨b, hb, rfl⟩ := h
  have := numBits_zero p e2 _ hb
  cases this

/-- Over all bits of l with those of e turned: what it makes to the sum hangs on e alone. -/
theorem turned (x : Nat) (l e : List Bool) (h : l.length = e.length) : crcBits x (List.zipWith (· ^^ ·) l e) = crcBits x l ^^^ crcBits 0 e := by
  have := crcBits_xor x 0 l e h
  rwa [Nat.xor_zero] at this

theorem allBits_length (l : List UInt8) : (allBits l).length = 8 * l.length := by
  induction l with
  | nil => rfl
  | cons c l ih =>
    have e : allBits (c :: l) = bits8 c ++ allBits l := rfl
    rw [e, List.length_append, ih, List.length_cons]
    simp [bits8]
    omega
theorem allBits_append (l m : List UInt8) : allBits (l ++ m) = allBits l ++ allBits m := by simp [allBits]
end Go.Proofs.Ytbglcnpkajkkpaa.crcMath
