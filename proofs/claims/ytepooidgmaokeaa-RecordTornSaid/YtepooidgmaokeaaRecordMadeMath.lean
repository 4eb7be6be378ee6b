import Derived.Test.YtepooidgmaokeaaRecordMath
import Derived.Test.YtepooidgmaokeaaAlike
import Derived.Test.YtepooidgmaokeaaItemSmall
/-! The laws' made records; records of which some sectors are another's: pure. -/
namespace Go.Proofs.Ytepooidgmaokeaa.record
open Go.RowKit Go.Proofs.Ytepooidgmaokeaa.mem Go.Proofs.Ytepooidgmaokeaa.base Go.Proofs.Ytepooidgmaokeaa.row Go.Proofs.Ytepooidgmaokeaa.rowBack Go.Proofs.Ytepooidgmaokeaa.fill Go.Proofs.Ytepooidgmaokeaa.crc Go.Proofs.Ytepooidgmaokeaa.crcMath Go.Proofs.Ytepooidgmaokeaa.super Go.Proofs.Ytepooidgmaokeaa.item

/-- Item i of a made record, by its kind modulo 5; its blocks, none or one. -/
def mkItem (i : Nat) (r : Int) : It := if r = 0 then ⟨2, i, 1 + i, 0⟩ else if r = 1 then ⟨3, 0, 0, 1 + i⟩ else if r = 2 then ⟨1, i, 0, 0⟩ else if r = 3 then ⟨4, i, 0, 20 + i⟩ else ⟨5, i, 0, 0⟩
def mkBlocks (i : Nat) (r fill : Int) : List (List UInt8) := if r = 2 then [fillOf (fill + i)] else if r = 3 then [fillOf (fill - i)] else if r = 4 then [List.replicate 64 0] else []
def madeIts (ks : List Int) (n : Nat) : List It := (List.range n).map fun i => mkItem i (ks.getD i 0 % 5)
def madeBks (ks : List Int) (fill : Int) (n : Nat) : List (List UInt8) := (List.range n).flatMap fun i => mkBlocks i (ks.getD i 0 % 5) fill
def made (ks : List Int) (lsn prev fill : Int) : Rc := ⟨1 + fill % 1000, 1 + lsn % 2147483647, prev % 4294967296, madeIts ks ks.length, madeBks ks fill ks.length⟩
theorem madeIts_succ (ks : List Int) (n : Nat) (k : Int) (h : ks[n]? = some k) : madeIts ks (n + 1) = madeIts ks n ++ [mkItem n (k % 5)] := by
  unfold madeIts
  rw [List.range_succ, List.map_append, List.map_singleton, List.getD_eq_getElem?_getD, h]
  rfl
theorem madeBks_succ (ks : List Int) (fill : Int) (n : Nat) (k : Int) (h : ks[n]? = some k) : madeBks ks fill (n + 1) = madeBks ks fill n ++ mkBlocks n (k % 5) fill := by
  unfold madeBks
  rw [List.range_succ, List.flatMap_append, List.flatMap_singleton, List.getD_eq_getElem?_getD, h]
  rfl
theorem madeIts_len (ks : List Int) (n : Nat) : (madeIts ks n).length = n := by simp [madeIts]
theorem five (k : Int) : k % 5 = 0 ∨ k % 5 = 1 ∨ k % 5 = 2 ∨ k % 5 = 3 ∨ k % 5 = 4 := by omega
theorem mkItem_may (i : Nat) (r : Int) (hi : i ≤ 5) : (mkItem i r).may = true := by
  unfold mkItem
  split
  · exact (may_iff4 _ _ _ _).2 (by omega)
  split
  · exact (may_iff4 _ _ _ _).2 (by omega)
  split
  · exact (may_iff4 _ _ _ _).2 (by omega)
  split
  · exact (may_iff4 _ _ _ _).2 (by omega)
  · exact (may_iff4 _ _ _ _).2 (by omega)
theorem mkItem_loaded (i : Nat) (k fill : Int) (hi : i ≤ 5) : (if (mkItem i (k % 5)).loaded = true then 1 else 0) = (mkBlocks i (k % 5) fill).length := by
  have hm := mkItem_may i (k % 5) hi
  unfold It.loaded
  rw [hm, Bool.true_and]
  rcases five k with h | h | h | h | h <;> rw [h] <;> simp [mkItem, mkBlocks]
theorem mkBlocks_64 (i : Nat) (r fill : Int) : all64 (mkBlocks i r fill) := by
  intro b hb
  unfold mkBlocks at hb
  split at hb
  · simp only [List.mem_cons, List.not_mem_nil, or_false] at hb
    rw [hb]
    exact fillOf_length _
  split at hb
  · simp only [List.mem_cons, List.not_mem_nil, or_false] at hb
    rw [hb]
    exact fillOf_length _
  split at hb
  · simp only [List.mem_cons, List.not_mem_nil, or_false] at hb
    rw [hb]
    exact List.length_replicate
  · cases hb
theorem mkBlocks_len (i : Nat) (r fill other : Int) : (mkBlocks i r fill).length = (mkBlocks i r other).length := by
  unfold mkBlocks
  split
  · rfl
  split
  · rfl
  split <;> rfl
theorem madeBks_len (ks : List Int) (fill other : Int) (n : Nat) : (madeBks ks fill n).length = (madeBks ks other n).length := by
  induction n with
  | zero => rfl
  | succ n ih =>
    unfold madeBks at ih ⊢
    rw [List.range_succ, List.flatMap_append, List.flatMap_append, List.length_append, List.length_append, ih, List.flatMap_singleton, List.flatMap_singleton, mkBlocks_len]
theorem madeIts_may (ks : List Int) (n : Nat) (hn : n ≤ 6) : allMay (madeIts ks n) := by
  intro x hx
  obtain ⟨i, hi, rfl⟩ := List.mem_map.1 hx
  exact mkItem_may i _ (by have := List.mem_range.1 hi; omega)
theorem madeBks_64 (ks : List Int) (fill : Int) (n : Nat) : all64 (madeBks ks fill n) := by
  intro x hx
  obtain ⟨i, _, hb⟩ := List.mem_flatMap.1 hx
  exact mkBlocks_64 _ _ _ x hb
theorem made_count (ks : List Int) (fill : Int) (n : Nat) (hn : n ≤ 6) : count (madeIts ks n) = (madeBks ks fill n).length := by
  induction n with
  | zero => rfl
  | succ n ih =>
    have e1 : madeIts ks (n + 1) = madeIts ks n ++ [mkItem n (ks.getD n 0 % 5)] := by unfold madeIts; rw [List.range_succ, List.map_append, List.map_singleton]
    have e2 : madeBks ks fill (n + 1) = madeBks ks fill n ++ mkBlocks n (ks.getD n 0 % 5) fill := by unfold madeBks; rw [List.range_succ, List.flatMap_append, List.flatMap_singleton]
    rw [e1, e2, count_snoc, ih (by omega), mkItem_loaded n _ fill (by omega), List.length_append]
theorem made_ok (ks : List Int) (lsn prev fill : Int) (h1 : 1 ≤ ks.length) (h6 : ks.length ≤ 6) : (made ks lsn prev fill).ok := by
  have a1 := Int.emod_nonneg fill (show (1000 : Int) ≠ 0 by omega)
  have a2 := Int.emod_lt_of_pos fill (show (0 : Int) < 1000 by omega)
  have b1 := Int.emod_nonneg lsn (show (2147483647 : Int) ≠ 0 by omega)
  have b2 := Int.emod_lt_of_pos lsn (show (0 : Int) < 2147483647 by omega)
  have c1 := Int.emod_nonneg prev (show (4294967296 : Int) ≠ 0 by omega)
  have c2 := Int.emod_lt_of_pos prev (show (0 : Int) < 4294967296 by omega)
  refine ⟨⟨?_, ?_⟩, ⟨?_, ?_⟩, ⟨?_, ?_⟩, ⟨?_, ?_⟩, madeIts_may ks _ h6, made_count ks fill _ h6, madeBks_64 _ _ _⟩
  all_goals dsimp only [made]
  all_goals first | omega | (rw [madeIts_len]; omega)

theorem flat_sector {R : Rc} (h : R.ok) (i : Nat) (b : List UInt8) (hb : R.bks[i]? = some b) : (R.bytes.drop (64 * (i + 1))).take 64 = b := by
  have h6 := h.2.2.2.1.2
  have h64 := h.2.2.2.2.2.2
  have hd : R.bytes.drop (64 * (i + 1)) = R.bks.flatten.drop (64 * i) := by
    unfold Rc.bytes
    rw [List.drop_append, List.drop_eq_nil_of_le (by rw [R.first_len h6]; omega), R.first_len h6, List.nil_append, show 64 * (i + 1) - 64 = 64 * i by omega]
    rfl
  rw [hd]
  exact flat_at R.bks h64 i b hb
/-- Bytes each sector of which is one of two records'. -/
theorem torn {R Q : Rc} (hR : R.ok) (hQ : Q.ok) (hb : R.bks.length = Q.bks.length) (x : List UInt8) (hx : x.length = 64 * (1 + R.bks.length))
    (hs : ∀ i, i ≤ R.bks.length → (x.drop (64 * i)).take 64 = (R.bytes.drop (64 * i)).take 64 ∨ (x.drop (64 * i)).take 64 = (Q.bytes.drop (64 * i)).take 64) :
    decode x = (Rc.zero, 0, 2) ∨ ∃ Y : Rc, Y.ok ∧ decode x = (Y, (Y.sum : Int), 0) ∧ Y.bks.length = R.bks.length ∧ (∀ (i : Nat) (b : List UInt8), Y.bks[i]? = some b → R.bks[i]? = some b ∨ Q.bks[i]? = some b) ∧ (Y.sum = R.sum ∨ Y.sum = Q.sum) := by
  rcases decode_or x with ⟨Y, hY, hby, hd⟩ | h
  · refine .inr ⟨Y, hY, hd, ?_, fun i b hi => ?_, ?_⟩
    · have := Y.bytes_len hY
      rw [hby, hx] at this
      omega
    · have hil := (List.getElem?_eq_some_iff.1 hi).1
      have hlen : Y.bks.length = R.bks.length := by
        have := Y.bytes_len hY
        rw [hby, hx] at this
        omega
      have e := flat_sector hY i b hi
      rw [hby] at e
      have hri : R.bks[i]? = some (R.bks[i]'(by omega)) := List.getElem?_eq_getElem (by omega)
      have hqi : Q.bks[i]? = some (Q.bks[i]'(by omega)) := List.getElem?_eq_getElem (by omega)
      rcases hs (i + 1) (by omega) with h | h
      · rw [e, flat_sector hR i _ hri] at h
        exact .inl (by rw [h]; exact hri)
      · rw [e, flat_sector hQ i _ hqi] at h
        exact .inr (by rw [h]; exact hqi)
    · have h0 := hs 0 (Nat.zero_le _)
      rw [Nat.mul_zero, List.drop_zero, List.drop_zero, List.drop_zero, ← hby, bytes_take Y hY.2.2.2.1.2, bytes_take R hR.2.2.2.1.2, bytes_take Q hQ.2.2.2.1.2] at h0
      rcases h0 with h | h
      · have e := congrArg (List.drop 60) h
        rw [first_drop Y hY.2.2.2.1.2, first_drop R hR.2.2.2.1.2] at e
        exact .inl (sum4_inj e)
      · have e := congrArg (List.drop 60) h
        rw [first_drop Y hY.2.2.2.1.2, first_drop Q hQ.2.2.2.1.2] at e
        exact .inr (sum4_inj e)
  · exact .inl h
end Go.Proofs.Ytepooidgmaokeaa.record
