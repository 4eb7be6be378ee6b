import Derived.Test.YtepooidgmaokeaaSuperMath
import Derived.Test.YtepooidgmaokeaaItemMath
/-! What a record is: pure. -/
namespace Go.Proofs.Ytepooidgmaokeaa.record
open Go.RowKit Go.Proofs.Ytepooidgmaokeaa.mem Go.Proofs.Ytepooidgmaokeaa.row Go.Proofs.Ytepooidgmaokeaa.rowBack Go.Proofs.Ytepooidgmaokeaa.fill Go.Proofs.Ytepooidgmaokeaa.crc Go.Proofs.Ytepooidgmaokeaa.crcMath Go.Proofs.Ytepooidgmaokeaa.super Go.Proofs.Ytepooidgmaokeaa.item

/-- Its numbers Mount, LSN, Prev, its items, its blocks. -/
structure Rc where
  (m l p : Int)
  its : List It
  bks : List (List UInt8)
deriving DecidableEq
def Rc.zero : Rc := ⟨0, 0, 0, [], []⟩
/-- How many of the items have a block. -/
def count (its : List It) : Nat := (its.filter It.loaded).length
theorem count_le (its : List It) : count its ≤ its.length := List.length_filter_le _ _
theorem count_snoc (a : List It) (i : It) : count (a ++ [i]) = count a + (if i.loaded = true then 1 else 0) := by
  unfold count
  rw [List.filter_append, List.length_append]
  cases h : i.loaded <;> simp [h]
def all64 (l : List (List UInt8)) : Prop := ∀ b ∈ l, b.length = 64
instance (l : List (List UInt8)) : Decidable (all64 l) := by unfold all64; infer_instance
def Rc.ok (R : Rc) : Prop := (1 ≤ R.m ∧ R.m ≤ 2147483647) ∧ (1 ≤ R.l ∧ R.l ≤ 2147483647) ∧ (0 ≤ R.p ∧ R.p ≤ 4294967295) ∧ (1 ≤ R.its.length ∧ R.its.length ≤ 6) ∧ allMay R.its ∧ count R.its = R.bks.length ∧ all64 R.bks
instance (R : Rc) : Decidable R.ok := by unfold Rc.ok; infer_instance
def Rc.may (R : Rc) : Bool := decide R.ok
theorem Rc.may_iff (R : Rc) : R.may = true ↔ R.ok := by simp [Rc.may]
theorem Rc.may_no (R : Rc) : R.may = false ↔ ¬ R.ok := by simp [Rc.may]
theorem Rc.ok.few {R : Rc} (h : R.ok) : R.bks.length ≤ 6 := by
  obtain ⟨_, _, _, ⟨_, h6⟩, _, hc, _⟩ := h
  have := count_le R.its
  omega

/-- Its bytes: the summary ahead of the sum, the blocks; the sum; all of them. -/
def Rc.head (R : Rc) : List UInt8 := (([75, 82] ++ bytesOf 4 [R.m, R.l, R.p]) ++ bytesOf 1 [(R.its.length : Int), (R.bks.length : Int)]) ++ laid R.its
theorem Rc.head_len (R : Rc) : R.head.length = 16 + 7 * R.its.length := by simp [Rc.head, bytesOf_length, laid_len]; omega
def Rc.body (R : Rc) : List UInt8 := R.head ++ List.replicate (60 - R.head.length) 0
theorem Rc.body_len (R : Rc) (h : R.its.length ≤ 6) : R.body.length = 60 := by simp [Rc.body, Rc.head_len]; omega
def Rc.tail (R : Rc) : List UInt8 := R.bks.flatten
theorem flat_len : ∀ (l : List (List UInt8)), all64 l → l.flatten.length = 64 * l.length
  | [], _ => rfl
  | b :: l, h => by
    rw [List.flatten_cons, List.length_append, h b (by simp), flat_len l (fun c hc => h c (by simp [hc])), List.length_cons]
    omega
theorem flat_at : ∀ (l : List (List UInt8)), all64 l → ∀ (i : Nat) (b : List UInt8), l[i]? = some b → (l.flatten.drop (64 * i)).take 64 = b
  | [], _, i, b, hb => by simp at hb
  | c :: l, h, 0, b, hb => by
    simp at hb
    subst hb
    rw [List.flatten_cons, Nat.mul_zero, List.drop_zero, List.take_left' (h c (by simp))]
  | c :: l, h, i + 1, b, hb => by
    have hc := h c (by simp)
    rw [List.flatten_cons, show 64 * (i + 1) = 64 + 64 * i by omega, List.drop_append, List.drop_eq_nil_of_le (by omega), hc, List.nil_append, show 64 + 64 * i - 64 = 64 * i by omega]
    exact flat_at l (fun d hd => h d (by simp [hd])) i b (by simpa using hb)
def Rc.sum (R : Rc) : Nat := more 0 (R.body ++ R.tail)
def Rc.sum4 (R : Rc) : List UInt8 := sumOf (R.body ++ R.tail)
theorem Rc.sum4_len (R : Rc) : R.sum4.length = 4 := sumOf_len _
def Rc.first (R : Rc) : List UInt8 := R.body ++ R.sum4
theorem Rc.first_len (R : Rc) (h : R.its.length ≤ 6) : R.first.length = 64 := by simp [Rc.first, R.body_len h, R.sum4_len]
def Rc.bytes (R : Rc) : List UInt8 := R.first ++ R.tail
theorem Rc.bytes_len {R : Rc} (h : R.ok) : R.bytes.length = 64 * (1 + R.bks.length) := by
  obtain ⟨_, _, _, ⟨_, h6⟩, _, _, h64⟩ := h
  rw [Rc.bytes, List.length_append, R.first_len h6, Rc.tail, flat_len _ h64]
  omega

/-- How one is read. -/
def numAt (bs : List UInt8) (p x : Nat) : Int := numOf ((bs.drop p).take x)
def nOf (bs : List UInt8) : Nat := (numAt bs 14 1).toNat
def kOf (bs : List UInt8) : Nat := (numAt bs 15 1).toNat
def blocksOf (bs : List UInt8) (k : Nat) : List (List UInt8) := (List.range k).map fun i => (bs.drop (64 * (i + 1))).take 64
def rawOf (bs : List UInt8) : List UInt8 := (bs.drop 16).take (7 * nOf bs)
def readOf (bs : List UInt8) : Rc := ⟨numAt bs 2 4, numAt bs 6 4, numAt bs 10 4, itemsOf (rawOf bs), blocksOf bs (kOf bs)⟩
theorem blocksOf_len (bs : List UInt8) (k : Nat) : (blocksOf bs k).length = k := by simp [blocksOf]
theorem num_at (x : Nat) (hx : x = 1 ∨ x = 2 ∨ x = 4) (a b : List UInt8) (n : Int) (p : Nat) (hf : fitsW x n = true) (hp : a.length = p) : numAt (a ++ (bytesOf x [n] ++ b)) p x = n := one_num x hx a b n p hf hp

theorem read_parts {R : Rc} (h : R.ok) : (numAt R.bytes 2 4 = R.m ∧ numAt R.bytes 6 4 = R.l ∧ numAt R.bytes 10 4 = R.p) ∧ (nOf R.bytes = R.its.length ∧ kOf R.bytes = R.bks.length) ∧ rawOf R.bytes = laid R.its ∧ blocksOf R.bytes R.bks.length = R.bks := by
  have hlen := R.bytes_len h
  have hfew := h.few
  obtain ⟨hm, hl, hp, ⟨h1, h6⟩, ha, hc, h64⟩ := h
  have hbk := R.first_len h6
  obtain ⟨m, l, p, its, bks⟩ := R
  dsimp only at hm hl hp h1 h6 ha hc h64 hfew hlen
  have f1 := fits4 m (by omega) (by omega)
  have f2 := fits4 l (by omega) (by omega)
  have f3 := fits4 p (by omega) (by omega)
  have f4 := fits1 (its.length : Int) (by omega) (by omega)
  have f5 := fits1 (bks.length : Int) (by omega) (by omega)
  generalize hb : Rc.bytes ⟨m, l, p, its, bks⟩ = bs at hlen
  obtain ⟨z, hz⟩ : ∃ z, bs = [75, 82] ++ (bytesOf 4 [m] ++ (bytesOf 4 [l] ++ (bytesOf 4 [p] ++ (bytesOf 1 [(its.length : Int)] ++ (bytesOf 1 [(bks.length : Int)] ++ (laid its ++ z)))))) :=
    ⟨List.replicate (60 - (Rc.head ⟨m, l, p, its, bks⟩).length) 0 ++ (Rc.sum4 ⟨m, l, p, its, bks⟩ ++ Rc.tail ⟨m, l, p, its, bks⟩), by
      rw [← hb]
      conv => lhs; unfold Rc.bytes Rc.first Rc.body
      generalize List.replicate (60 - (Rc.head ⟨m, l, p, its, bks⟩).length) (0 : UInt8) = zs
      simp only [Rc.head]
      rw [bytesOf_cons 4 (by omega) m [l, p], bytesOf_cons 4 (by omega) l [p], bytesOf_cons 1 (by omega) (its.length : Int) [(bks.length : Int)]]
      simp only [List.append_assoc, List.cons_append, List.nil_append]⟩
  have l1 : ∀ n : Int, (bytesOf 1 [n]).length = 1 := fun n => by simp [bytesOf_length]
  have l4 : ∀ n : Int, (bytesOf 4 [n]).length = 4 := fun n => by simp [bytesOf_length]
  have g1 : numAt bs 2 4 = m := by
    rw [hz]
    exact num_at 4 (by omega) [75, 82] _ m 2 f1 rfl
  have g2 : numAt bs 6 4 = l := by
    have := num_at 4 (by omega) ([75, 82] ++ bytesOf 4 [m]) (bytesOf 4 [p] ++ (bytesOf 1 [(its.length : Int)] ++ (bytesOf 1 [(bks.length : Int)] ++ (laid its ++ z)))) l 6 f2 (by simp [l4])
    rwa [List.append_assoc, ← hz] at this
  have g3 : numAt bs 10 4 = p := by
    have := num_at 4 (by omega) ([75, 82] ++ bytesOf 4 [m] ++ bytesOf 4 [l]) (bytesOf 1 [(its.length : Int)] ++ (bytesOf 1 [(bks.length : Int)] ++ (laid its ++ z))) p 10 f3 (by simp [l4])
    simp only [List.append_assoc] at this
    rwa [← hz] at this
  have g4 : numAt bs 14 1 = its.length := by
    have := num_at 1 (by omega) ([75, 82] ++ bytesOf 4 [m] ++ bytesOf 4 [l] ++ bytesOf 4 [p]) (bytesOf 1 [(bks.length : Int)] ++ (laid its ++ z)) (its.length : Int) 14 f4 (by simp [l4])
    simp only [List.append_assoc] at this
    rwa [← hz] at this
  have g5 : numAt bs 15 1 = bks.length := by
    have := num_at 1 (by omega) ([75, 82] ++ bytesOf 4 [m] ++ bytesOf 4 [l] ++ bytesOf 4 [p] ++ bytesOf 1 [(its.length : Int)]) (laid its ++ z) (bks.length : Int) 15 f5 (by simp [l4, l1])
    simp only [List.append_assoc] at this
    rwa [← hz] at this
  have g6 : (bs.drop 16).take (7 * its.length) = laid its := by
    have e : bs = ([75, 82] ++ bytesOf 4 [m] ++ bytesOf 4 [l] ++ bytesOf 4 [p] ++ bytesOf 1 [(its.length : Int)] ++ bytesOf 1 [(bks.length : Int)]) ++ (laid its ++ z) := by
      simp only [List.append_assoc]
      exact hz
    rw [e, List.drop_left' (by simp [l4, l1]), List.take_left' (laid_len its)]
  have g7 : blocksOf bs bks.length = bks := by
    apply List.ext_getElem?
    intro i
    by_cases hi : i < bks.length
    · have hd : bs.drop (64 * (i + 1)) = bks.flatten.drop (64 * i) := by
        rw [← hb]
        unfold Rc.bytes
        rw [List.drop_append, List.drop_eq_nil_of_le (by rw [hbk]; omega), hbk, List.nil_append, show 64 * (i + 1) - 64 = 64 * i by omega]
        rfl
      have hs : bks[i]? = some bks[i] := List.getElem?_eq_getElem hi
      rw [hs, ← flat_at bks h64 i _ hs, ← hd]
      simp [blocksOf, hi]
    · rw [List.getElem?_eq_none (by rw [blocksOf_len]; omega), List.getElem?_eq_none (by omega)]
  have en : nOf bs = its.length := by unfold nOf; rw [g4]; exact Int.toNat_natCast _
  have ek : kOf bs = bks.length := by unfold kOf; rw [g5]; exact Int.toNat_natCast _
  refine ⟨⟨g1, g2, g3⟩, ⟨en, ek⟩, ?_, g7⟩
  unfold rawOf
  rw [en]
  exact g6
theorem read_bytes {R : Rc} (h : R.ok) : readOf R.bytes = R := by
  obtain ⟨⟨g1, g2, g3⟩, ⟨en, ek⟩, g6, g7⟩ := read_parts h
  unfold readOf
  rw [g1, g2, g3, ek, g6, g7, itemsOf_laid R.its h.2.2.2.2.1]

/-- Encode's answer; Decode's. -/
def encode (R : Rc) : List UInt8 × Int × Int := if R.may = true then (R.bytes, R.sum, 0) else ([], 0, 1)
def decode (bs : List UInt8) : Rc × Int × Int := if (readOf bs).may = true ∧ (readOf bs).bytes = bs then (readOf bs, (readOf bs).sum, 0) else (Rc.zero, 0, 2)
theorem decode_bytes {R : Rc} (h : R.ok) : decode R.bytes = (R, (R.sum : Int), 0) := by
  unfold decode
  rw [read_bytes h, if_pos ⟨R.may_iff.2 h, rfl⟩]
theorem decode_or (bs : List UInt8) : (∃ R : Rc, R.ok ∧ R.bytes = bs ∧ decode bs = (R, (R.sum : Int), 0)) ∨ decode bs = (Rc.zero, 0, 2) := by
  by_cases h : (readOf bs).may = true ∧ (readOf bs).bytes = bs
  · exact .inl ⟨readOf bs, (Rc.may_iff _).1 h.1, h.2, if_pos h⟩
  · exact .inr (if_neg h)
theorem decode_no (bs : List UInt8) (h : ∀ R : Rc, R.ok → R.bytes ≠ bs) : decode bs = (Rc.zero, 0, 2) := by
  rcases decode_or bs with ⟨R, h1, h2, _⟩ | h3
  · exact absurd h2 (h R h1)
  · exact h3
theorem decode_yes (bs : List UInt8) (h : (decode bs).2.2 = 0) : ∃ R : Rc, R.ok ∧ R.bytes = bs ∧ decode bs = (R, (R.sum : Int), 0) := by
  rcases decode_or bs with h1 | h3
  · exact h1
  · rw [h3] at h
    cases h
/-- Another length than its summary tells. -/
theorem decode_len (bs : List UInt8) (h : bs.length ≠ 64 * (1 + kOf bs)) : decode bs = (Rc.zero, 0, 2) := by
  unfold decode
  refine if_neg fun hn => h ?_
  have h1 := Rc.bytes_len ((Rc.may_iff _).1 hn.1)
  rw [hn.2] at h1
  rw [h1]
  congr 2
  exact blocksOf_len _ _
theorem bytes_take (R : Rc) (h : R.its.length ≤ 6) : R.bytes.take 64 = R.first := List.take_left' (R.first_len h)
theorem bytes_drop (R : Rc) (h : R.its.length ≤ 6) : R.bytes.drop 64 = R.tail := List.drop_left' (R.first_len h)
theorem first_take (R : Rc) (h : R.its.length ≤ 6) : R.first.take 60 = R.body := List.take_left' (R.body_len h)
theorem first_drop (R : Rc) (h : R.its.length ≤ 6) : R.first.drop 60 = R.sum4 := List.drop_left' (R.body_len h)
theorem first_start (R : Rc) : R.first[0]? = some 75 ∧ R.first[1]? = some 82 := by
  simp only [Rc.first, Rc.body, Rc.head, List.append_assoc, List.cons_append]
  exact ⟨rfl, rfl⟩
theorem numAt_take (bs : List UInt8) (p x n : Nat) (h : p + x ≤ n) : numAt (bs.take n) p x = numAt bs p x := by
  unfold numAt
  rw [List.drop_take, List.take_take, Nat.min_eq_left (by omega)]
theorem nOf_take (bs : List UInt8) : nOf (bs.take 64) = nOf bs := by unfold nOf; rw [numAt_take _ _ _ _ (by omega)]
theorem kOf_take (bs : List UInt8) : kOf (bs.take 64) = kOf bs := by unfold kOf; rw [numAt_take _ _ _ _ (by omega)]
theorem kOf_bytes {R : Rc} (h : R.ok) : kOf R.bytes = R.bks.length := (read_parts h).2.1.2
theorem nOf_bytes {R : Rc} (h : R.ok) : nOf R.bytes = R.its.length := (read_parts h).2.1.1

/-- Size's answer. -/
def sizeOf (bs : List UInt8) : Nat := if bs.length = 64 ∧ (bs[0]? = some 75 ∧ bs[1]? = some 82) ∧ (1 ≤ nOf bs ∧ nOf bs ≤ 6) ∧ kOf bs ≤ nOf bs then 1 + kOf bs else 0
theorem size_bytes {R : Rc} (h : R.ok) : sizeOf (R.bytes.take 64) = 1 + R.bks.length := by
  have hn := nOf_bytes h
  have hk := kOf_bytes h
  have hl := R.bytes_len h
  obtain ⟨_, _, _, ⟨h1, h6⟩, _, hc, _⟩ := h
  have hle := count_le R.its
  unfold sizeOf
  rw [nOf_take, kOf_take, hn, hk, if_pos ⟨by rw [List.length_take, hl]; omega, by rw [bytes_take R h6]; exact first_start R, ⟨h1, h6⟩, by omega⟩]
/-- What the size alone rules out. -/
theorem decode_size (bs : List UInt8) (h : bs.length < 64 ∨ 64 * sizeOf (bs.take 64) ≠ bs.length) : decode bs = (Rc.zero, 0, 2) :=
  decode_no bs fun R hR e => by
    have h1 := size_bytes hR
    have h2 := R.bytes_len hR
    rw [e] at h1 h2
    rw [h1] at h
    omega
/-- What the items alone rule out. -/
theorem decode_items (bs : List UInt8) (h : ¬ allMay (itemsOf (rawOf bs))) : decode bs = (Rc.zero, 0, 2) :=
  if_neg fun hn => h ((Rc.may_iff _).1 hn.1).2.2.2.2.1
theorem size_pos (bs : List UInt8) (h : 64 * sizeOf (bs.take 64) = bs.length) (h64 : 64 ≤ bs.length) :
    (bs[0]? = some 75 ∧ bs[1]? = some 82) ∧ (1 ≤ nOf bs ∧ nOf bs ≤ 6) ∧ kOf bs ≤ nOf bs ∧ bs.length = 64 * (1 + kOf bs) := by
  unfold sizeOf at h
  split at h
  · rename_i hc
    obtain ⟨_, ⟨h0, h1⟩, hn, hk⟩ := hc
    rw [nOf_take] at hn
    rw [kOf_take, nOf_take] at hk
    rw [kOf_take] at h
    rw [List.getElem?_take_of_lt (by omega)] at h0 h1
    exact ⟨⟨h0, h1⟩, hn, hk, h.symm⟩
  · omega

/-- A byte more, or less. -/
theorem decode_odd {R : Rc} (h : R.ok) : decode (R.bytes.take (R.bytes.length - 1)) = (Rc.zero, 0, 2) :=
  decode_no _ fun T hT e => by
    have h1 := T.bytes_len hT
    have h2 := R.bytes_len h
    rw [e, List.length_take] at h1
    omega
theorem decode_more {R : Rc} (h : R.ok) (z : List UInt8) (hz : 0 < z.length) : decode (R.bytes ++ z) = (Rc.zero, 0, 2) := by
  refine decode_len _ ?_
  have h2 := R.bytes_len h
  have hk : kOf (R.bytes ++ z) = kOf R.bytes := by
    rw [← kOf_take (R.bytes ++ z), List.take_append, show 64 - R.bytes.length = 0 by omega, List.take_zero, List.append_nil, kOf_take]
  rw [hk, kOf_bytes h, List.length_append]
  omega

theorem bitAt_left (a b : List UInt8) (i : Nat) (h : i < 8 * a.length) : bitAt (a ++ b) i = bitAt a i := by
  unfold bitAt
  rw [List.getElem?_append_left (by omega)]
theorem bitAt_right (a b : List UInt8) (i : Nat) : bitAt (a ++ b) (8 * a.length + i) = bitAt b i := by
  unfold bitAt
  rw [List.getElem?_append_right (by omega), show (8 * a.length + i) / 8 - a.length = i / 8 by omega, show (8 * a.length + i) % 8 = i % 8 by omega]
/-- Bits that are turned with bytes behind them, or ahead of them. -/
theorem turned_ahead {bs o : List UInt8} {first p : Nat} {any : Bool} (h : TurnedAt bs o first p 32 any) (hf : first < 8 * bs.length) (z : List UInt8) : more 0 (o ++ z) = more 0 (bs ++ z) ↔ any = false := by
  have hm : ∀ i, msk first (p % 2 ^ (8 * bs.length - first)) 32 i = (decide (i < 8 * bs.length) && msk first p 32 i) := by
    intro i
    unfold msk
    rw [Nat.testBit_mod_two_pow]
    by_cases h1 : first ≤ i
    · by_cases h2 : i < 8 * bs.length
      · simp [h1, h2, show i - first < 8 * bs.length - first by omega]
      · simp [h1, h2, show ¬ i - first < 8 * bs.length - first by omega]
    · simp [h1]
  have ht : TurnedAt (bs ++ z) (o ++ z) first (p % 2 ^ (8 * bs.length - first)) 32 any := by
    refine ⟨by rw [List.length_append, List.length_append, h.len], fun i hi => ?_, ?_⟩
    · rw [hm]
      by_cases hl : i < 8 * bs.length
      · rw [bitAt_left o z i (by rw [h.len]; exact hl), bitAt_left bs z i hl, h.bit i hl]
        simp [hl]
      · obtain ⟨j, rfl⟩ : ∃ j, i = 8 * bs.length + j := ⟨i - 8 * bs.length, by omega⟩
        rw [bitAt_right bs z j]
        have e := bitAt_right o z j
        rw [h.len] at e
        rw [e, decide_eq_false (show ¬ 8 * bs.length + j < 8 * bs.length by omega), Bool.false_and, Bool.xor_false]
    · rw [h.any]
      constructor
      · rintro ⟨i, hi, hq⟩
        exact ⟨i, by rw [List.length_append]; omega, by rw [hm, hq]; simp [hi]⟩
      · rintro ⟨i, _, hq⟩
        rw [hm, Bool.and_eq_true, decide_eq_true_iff] at hq
        exact ⟨i, hq.1, hq.2⟩
  exact ht.sum (by rw [List.length_append]; omega)
theorem turned_behind {bs o : List UInt8} {first p : Nat} {any : Bool} (h : TurnedAt bs o first p 32 any) (hf : first < 8 * bs.length) (z : List UInt8) : more 0 (z ++ o) = more 0 (z ++ bs) ↔ any = false := by
  have hm : ∀ j, msk (8 * z.length + first) p 32 (8 * z.length + j) = msk first p 32 j := by
    intro j
    unfold msk
    rw [show 8 * z.length + j - (8 * z.length + first) = j - first by omega]
    congr 1
    · exact decide_eq_decide.2 (by omega)
    · congr 1
      exact decide_eq_decide.2 (by omega)
  have hm0 : ∀ i, i < 8 * z.length → msk (8 * z.length + first) p 32 i = false := by
    intro i hi
    unfold msk
    rw [decide_eq_false (show ¬ 8 * z.length + first ≤ i by omega)]
    rfl
  have ht : TurnedAt (z ++ bs) (z ++ o) (8 * z.length + first) p 32 any := by
    refine ⟨by rw [List.length_append, List.length_append, h.len], fun i hi => ?_, ?_⟩
    · by_cases hl : i < 8 * z.length
      · rw [bitAt_left z o i hl, bitAt_left z bs i hl, hm0 i hl, Bool.xor_false]
      · obtain ⟨j, rfl⟩ : ∃ j, i = 8 * z.length + j := ⟨i - 8 * z.length, by omega⟩
        rw [List.length_append] at hi
        rw [bitAt_right z o j, bitAt_right z bs j, hm, h.bit j (by omega)]
    · rw [h.any]
      constructor
      · rintro ⟨i, hi, hq⟩
        exact ⟨8 * z.length + i, by rw [List.length_append]; omega, by rw [hm]; exact hq⟩
      · rintro ⟨i, hi, hq⟩
        by_cases hl : i < 8 * z.length
        · rw [hm0 i hl] at hq
          cases hq
        · obtain ⟨j, rfl⟩ : ∃ j, i = 8 * z.length + j := ⟨i - 8 * z.length, by omega⟩
          rw [List.length_append] at hi
          rw [hm] at hq
          exact ⟨j, by omega, hq⟩
  exact ht.sum (by rw [List.length_append]; omega)

theorem sum4_inj {R T : Rc} (h : R.sum4 = T.sum4) : R.sum = T.sum := sumOf_inj _ _ h
theorem spoilt_body {R : Rc} (h : R.ok) (o : List UInt8) (first p : Nat) (any : Bool) (ho : TurnedAt R.body o first p 32 any) (hf : first < 480) :
    ((decode (o ++ (R.sum4 ++ R.tail))).2.2 = 0) ↔ any = false := by
  have h6 := h.2.2.2.1.2
  have hlo : o.length = 60 := by rw [ho.len]; exact R.body_len h6
  rw [← turned_ahead ho (by rw [R.body_len h6]; exact hf) R.tail]
  constructor
  · intro hd
    obtain ⟨T, hT, hb, _⟩ := decode_yes _ hd
    have t6 := hT.2.2.2.1.2
    have e1 := congrArg (List.take 60) hb
    have e2 := congrArg (fun x => (x.drop 60).take 4) hb
    have e3 := congrArg (List.drop 64) hb
    rw [bytes_drop T t6, ← List.append_assoc, List.drop_left' (by rw [List.length_append, hlo, R.sum4_len])] at e3
    rw [Rc.bytes, Rc.first, List.append_assoc, List.take_left' (T.body_len t6), List.take_left' hlo] at e1
    rw [Rc.bytes, Rc.first, List.append_assoc, List.drop_left' (T.body_len t6), List.drop_left' hlo, List.take_left' T.sum4_len, List.take_left' R.sum4_len] at e2
    have e4 := sum4_inj e2
    unfold Rc.sum at e4
    rw [e1, e3] at e4
    exact e4
  · intro hm
    have hb : o = R.body := ho.same ((turned_ahead ho (by rw [R.body_len h6]; exact hf) R.tail).1 hm)
    rw [hb, ← List.append_assoc]
    show (decode R.bytes).2.2 = 0
    rw [decode_bytes h]
theorem spoilt_tail {R : Rc} (h : R.ok) (o : List UInt8) (first p : Nat) (any : Bool) (ho : TurnedAt R.tail o first p 32 any) (hf : first < 8 * R.tail.length) :
    ((decode (R.first ++ o)).2.2 = 0) ↔ any = false := by
  have h6 := h.2.2.2.1.2
  rw [← turned_behind ho hf R.body]
  constructor
  · intro hd
    obtain ⟨T, hT, hb, _⟩ := decode_yes _ hd
    have t6 := hT.2.2.2.1.2
    have e1 := congrArg (List.take 64) hb
    have e3 := congrArg (List.drop 64) hb
    rw [bytes_take T t6, List.take_left' (R.first_len h6)] at e1
    rw [bytes_drop T t6, List.drop_left' (R.first_len h6)] at e3
    have e5 := congrArg (List.take 60) e1
    have e6 := congrArg (List.drop 60) e1
    rw [first_take T t6, first_take R h6] at e5
    rw [first_drop T t6, first_drop R h6] at e6
    have e4 := sum4_inj e6
    unfold Rc.sum at e4
    rw [e5, e3] at e4
    exact e4
  · intro hm
    have hb : o = R.tail := ho.same ((turned_behind ho hf R.body).1 hm)
    rw [hb]
    show (decode R.bytes).2.2 = 0
    rw [decode_bytes h]
end Go.Proofs.Ytepooidgmaokeaa.record
