/- A record as it is read, row by row: pure. -/
import Derived.Test.YtepooidgmaokeaaRecordMath
namespace Go.Proofs.Ytepooidgmaokeaa.record
open Go.RowKit Go.Proofs.Ytepooidgmaokeaa.mem Go.Proofs.Ytepooidgmaokeaa.row Go.Proofs.Ytepooidgmaokeaa.rowBack Go.Proofs.Ytepooidgmaokeaa.fill Go.Proofs.Ytepooidgmaokeaa.crc Go.Proofs.Ytepooidgmaokeaa.crcMath Go.Proofs.Ytepooidgmaokeaa.super Go.Proofs.Ytepooidgmaokeaa.item

/-- The rows behind each number of a summary; the numbers. -/
def q0 (bs : List UInt8) : Row := (Row.take ⟨bs, 0⟩ 2).2.2
def q1 (bs : List UInt8) : Row := ((q0 bs).get 4).2.2
def q2 (bs : List UInt8) : Row := ((q1 bs).get 4).2.2
def q3 (bs : List UInt8) : Row := ((q2 bs).get 4).2.2
def q4 (bs : List UInt8) : Row := ((q3 bs).get 1).2.2
def q5 (bs : List UInt8) : Row := ((q4 bs).get 1).2.2
def cm (bs : List UInt8) : Int := ((q0 bs).get 4).1
def cl (bs : List UInt8) : Int := ((q1 bs).get 4).1
def cp (bs : List UInt8) : Int := ((q2 bs).get 4).1
def cn (bs : List UInt8) : Int := ((q3 bs).get 1).1
def ck (bs : List UInt8) : Int := ((q4 bs).get 1).1
theorem q1_eq (bs : List UInt8) : ((q0 bs).get 4).2.2 = q1 bs := by simp only [q1]
theorem q2_eq (bs : List UInt8) : ((q1 bs).get 4).2.2 = q2 bs := by simp only [q2]
theorem q3_eq (bs : List UInt8) : ((q2 bs).get 4).2.2 = q3 bs := by simp only [q3]
theorem q4_eq (bs : List UInt8) : ((q3 bs).get 1).2.2 = q4 bs := by simp only [q4]
theorem q5_eq (bs : List UInt8) : ((q4 bs).get 1).2.2 = q5 bs := by simp only [q5]
theorem cm_eq (bs : List UInt8) : ((q0 bs).get 4).1 = cm bs := by simp only [cm]
theorem cl_eq (bs : List UInt8) : ((q1 bs).get 4).1 = cl bs := by simp only [cl]
theorem cp_eq (bs : List UInt8) : ((q2 bs).get 4).1 = cp bs := by simp only [cp]
theorem cn_eq (bs : List UInt8) : ((q3 bs).get 1).1 = cn bs := by simp only [cn]
theorem ck_eq (bs : List UInt8) : ((q4 bs).get 1).1 = ck bs := by simp only [ck]
theorem cn_bd (bs : List UInt8) : 0 ≤ cn bs ∧ cn bs < 256 := by
  have := get_bd (q3 bs) 1
  rw [show ((1 : Nat) : Int) = 1 from rfl, cn_eq, Int.pow_one] at this
  exact this
theorem ck_bd (bs : List UInt8) : 0 ≤ ck bs ∧ ck bs < 256 := by
  have := get_bd (q4 bs) 1
  rw [show ((1 : Nat) : Int) = 1 from rfl, ck_eq, Int.pow_one] at this
  exact this

/-- The row behind so many blocks; the blocks. -/
def after (R : Row) : Nat → Row
  | 0 => R
  | i + 1 => ((after R i).take 64).2.2
def taken (R : Row) (i : Nat) : List UInt8 := ((after R i).take 64).1
def takes (R : Row) (k : Nat) : List (List UInt8) := (List.range k).map (taken R)
theorem takes_len (R : Row) (k : Nat) : (takes R k).length = k := by simp [takes]
theorem takes_succ (R : Row) (k : Nat) : takes R (k + 1) = takes R k ++ [taken R k] := by simp [takes, List.range_succ]
def sm (bs : List UInt8) : List UInt8 := (Row.take ⟨bs, 0⟩ 64).1
def a1 (bs : List UInt8) : Row := (Row.take ⟨bs, 0⟩ 64).2.2
def raw (s : List UInt8) : List UInt8 := ((q5 s).take (7 * cn s)).1
def readC (bs : List UInt8) : Rc := ⟨cm (sm bs), cl (sm bs), cp (sm bs), (item.decode (raw (sm bs))).1, takes (a1 bs) (ck (sm bs)).toNat⟩

theorem take_yes (bs : List UInt8) (p : Nat) (n : Int) (h0 : 0 ≤ n) (h : (p : Int) + n ≤ bs.length) : Row.take ⟨bs, p⟩ n = ((bs.drop p).take n.toNat, true, ⟨bs, p + n.toNat⟩) := if_pos ⟨h0, h⟩
theorem sm_eq (bs : List UInt8) (h : 64 ≤ bs.length) : sm bs = bs.take 64 := by
  unfold sm
  rw [take_yes bs 0 64 (by omega) (by omega)]
  rfl
theorem a1_eq (bs : List UInt8) (h : 64 ≤ bs.length) : a1 bs = ⟨bs, 64⟩ := by
  unfold a1
  rw [take_yes bs 0 64 (by omega) (by omega)]
  rfl
/-- A summary of 64 bytes. -/
theorem sum_parts (s : List UInt8) (h : s.length = 64) : (cm s = numAt s 2 4 ∧ cl s = numAt s 6 4 ∧ cp s = numAt s 10 4 ∧ cn s = numAt s 14 1 ∧ ck s = numAt s 15 1) ∧ q5 s = ⟨s, 16⟩ := by
  have e0 : q0 s = ⟨s, 2⟩ := by
    unfold q0
    rw [take_yes s 0 2 (by omega) (by omega)]
    rfl
  have g : ∀ p x : Nat, isW (x : Int) = true → p + x ≤ 64 → Row.get ⟨s, p⟩ x = (numAt s p x, true, ⟨s, p + x⟩) := fun p x hx hp => get_at_ok s p x hx (by omega)
  have e1 : q1 s = ⟨s, 6⟩ := by unfold q1; rw [e0]; rw [show ((4 : Int)) = ((4 : Nat) : Int) from rfl, g 2 4 rfl (by omega)]
  have e2 : q2 s = ⟨s, 10⟩ := by unfold q2; rw [e1]; rw [show ((4 : Int)) = ((4 : Nat) : Int) from rfl, g 6 4 rfl (by omega)]
  have e3 : q3 s = ⟨s, 14⟩ := by unfold q3; rw [e2]; rw [show ((4 : Int)) = ((4 : Nat) : Int) from rfl, g 10 4 rfl (by omega)]
  have e4 : q4 s = ⟨s, 15⟩ := by unfold q4; rw [e3]; rw [show ((1 : Int)) = ((1 : Nat) : Int) from rfl, g 14 1 rfl (by omega)]
  have e5 : q5 s = ⟨s, 16⟩ := by unfold q5; rw [e4]; rw [show ((1 : Int)) = ((1 : Nat) : Int) from rfl, g 15 1 rfl (by omega)]
  refine ⟨⟨?_, ?_, ?_, ?_, ?_⟩, e5⟩
  · unfold cm; rw [e0]; rw [show ((4 : Int)) = ((4 : Nat) : Int) from rfl, g 2 4 rfl (by omega)]
  · unfold cl; rw [e1]; rw [show ((4 : Int)) = ((4 : Nat) : Int) from rfl, g 6 4 rfl (by omega)]
  · unfold cp; rw [e2]; rw [show ((4 : Int)) = ((4 : Nat) : Int) from rfl, g 10 4 rfl (by omega)]
  · unfold cn; rw [e3]; rw [show ((1 : Int)) = ((1 : Nat) : Int) from rfl, g 14 1 rfl (by omega)]
  · unfold ck; rw [e4]; rw [show ((1 : Int)) = ((1 : Nat) : Int) from rfl, g 15 1 rfl (by omega)]
theorem numAt_pos (bs : List UInt8) (p x : Nat) : 0 ≤ numAt bs p x := (numOf_bd _).1
theorem after_at (bs : List UInt8) (k : Nat) (h : bs.length = 64 * (1 + k)) : ∀ i, i ≤ k → after ⟨bs, 64⟩ i = ⟨bs, 64 * (i + 1)⟩
  | 0, _ => rfl
  | i + 1, hi => by
    unfold after
    rw [after_at bs k h i (by omega), take_yes bs (64 * (i + 1)) 64 (by omega) (by omega)]
    simp only [Row.mk.injEq, true_and]
    omega
theorem takes_at (bs : List UInt8) (k : Nat) (h : bs.length = 64 * (1 + k)) : takes ⟨bs, 64⟩ k = blocksOf bs k := by
  unfold takes blocksOf
  refine List.map_congr_left fun i hi => ?_
  have hi := List.mem_range.1 hi
  unfold taken
  rw [after_at bs k h i (by omega), take_yes bs (64 * (i + 1)) 64 (by omega) (by omega)]
  rfl
theorem raw_at (s : List UInt8) (h : s.length = 64) (hn : nOf s ≤ 6) : raw s = rawOf s := by
  obtain ⟨⟨_, _, _, e, _⟩, e5⟩ := sum_parts s h
  have hp := numAt_pos s 14 1
  unfold nOf at hn
  unfold raw rawOf nOf
  rw [e5, e]
  generalize numAt s 14 1 = y at hp hn ⊢
  have h7 : (7 * y).toNat = 7 * y.toNat := by omega
  rw [take_yes s 16 _ (by omega) (by omega), h7]
theorem rawOf_take (bs : List UInt8) (hn : nOf bs ≤ 6) : rawOf (bs.take 64) = rawOf bs := by
  unfold rawOf
  rw [nOf_take, List.drop_take, List.take_take, Nat.min_eq_left (by omega)]

/-- What a record's bytes are read as. -/
theorem readC_bytes {T : Rc} (h : T.ok) : readC T.bytes = T := by
  have hl := T.bytes_len h
  obtain ⟨⟨g1, g2, g3⟩, ⟨en, ek⟩, g6, g7⟩ := read_parts h
  have h6 := h.2.2.2.1.2
  generalize T.bytes = bs at *
  have h64 : 64 ≤ bs.length := by omega
  have hs : (bs.take 64).length = 64 := by rw [List.length_take]; omega
  obtain ⟨⟨e1, e2, e3, e4, e5⟩, _⟩ := sum_parts (bs.take 64) hs
  have hk : (ck (bs.take 64)).toNat = T.bks.length := by
    rw [e5, numAt_take _ _ _ _ (by omega)]
    exact ek
  unfold readC
  rw [sm_eq bs h64, a1_eq bs h64, hk, takes_at bs _ hl, g7, e1, e2, e3, numAt_take _ _ _ _ (by omega), numAt_take _ _ _ _ (by omega), numAt_take _ _ _ _ (by omega), g1, g2, g3,
    raw_at _ hs (by rw [nOf_take]; omega), rawOf_take bs (by omega), g6, decode_laid _ h6 h.2.2.2.2.1]
end Go.Proofs.Ytepooidgmaokeaa.record
