import Derived.Test.YtbghkfjjmgmjmaaRef
namespace Go.Proofs.Ytbghkfjjmgmjmaa.rowBack
open Go.RowKit Go.Proofs.Ytbghkfjjmgmjmaa.mem Go.Proofs.Ytbghkfjjmgmjmaa.row Go.Proofs.Ytbghkfjjmgmjmaa.ref

theorem bytesOf_append (x : Nat) (a b : List Int) (hx : 0 < x) : bytesOf x (a ++ b) = bytesOf x a ++ bytesOf x b := by
  apply List.ext_getElem?
  intro i
  unfold bytesOf
  rw [List.getElem?_append, List.length_map, List.length_range]
  simp only [List.getElem?_map, List.length_append]
  split
  · rename_i h
    have hia : i / x < a.length := Nat.div_lt_of_lt_mul h
    rw [List.getElem?_range (by rw [Nat.mul_add]; omega), List.getElem?_range h]
    simp [row.byteOf, List.getElem?_append_left hia]
  · rename_i h
    by_cases h2 : i < x * (a.length + b.length)
    · obtain ⟨k, rfl⟩ : ∃ k, i = x * a.length + k := ⟨i - x * a.length, by omega⟩
      rw [Nat.mul_add] at h2
      rw [Nat.add_sub_cancel_left, Nat.mul_add, List.getElem?_range h2, List.getElem?_range (by omega)]
      simp only [Option.map_some, row.byteOf, Nat.mul_add_div hx, Nat.mul_add_mod, List.getD_eq_getElem?_getD]
      rw [List.getElem?_append_right (Nat.le_add_right _ _), Nat.add_sub_cancel_left]
    · rw [Nat.mul_add] at h2
      rw [List.getElem?_eq_none (by simp [Nat.mul_add]; omega), List.getElem?_eq_none (by simp; omega)]
      rfl

theorem bytesOf_nil (x : Nat) : bytesOf x [] = [] := by simp [bytesOf]

theorem num1 (n : Int) (h : fitsW 1 n = true) : numOf (bytesOf 1 [n]) = n := by
  have h' : 0 ≤ n ∧ n < 256 := by simpa [fitsW] using h
  simp only [bytesOf, numOf, row.byteOf, List.length_singleton, List.range, List.range.loop, List.map, List.foldr, UInt8.toNat_ofNat', Nat.reduceMul, Nat.reduceDiv, Nat.reduceMod, List.getD_cons_zero, Int.pow_zero]
  omega
theorem num2 (n : Int) (h : fitsW 2 n = true) : numOf (bytesOf 2 [n]) = n := by
  have h' : 0 ≤ n ∧ n < 65536 := by simpa [fitsW] using h
  simp only [bytesOf, numOf, row.byteOf, List.length_singleton, List.range, List.range.loop, List.map, List.foldr, UInt8.toNat_ofNat', Nat.reduceMul, Nat.reduceDiv, Nat.reduceMod, List.getD_cons_zero, Int.pow_zero, Int.reducePow]
  omega
theorem num4 (n : Int) (h : fitsW 4 n = true) : numOf (bytesOf 4 [n]) = n := by
  have h' : 0 ≤ n ∧ n < 4294967296 := by simpa [fitsW] using h
  simp only [bytesOf, numOf, row.byteOf, List.length_singleton, List.range, List.range.loop, List.map, List.foldr, UInt8.toNat_ofNat', Nat.reduceMul, Nat.reduceDiv, Nat.reduceMod, List.getD_cons_zero, Int.pow_zero, Int.reducePow]
  omega
theorem num_bytes (x : Nat) (hx : x = 1 ∨ x = 2 ∨ x = 4) (n : Int) (h : fitsW x n = true) : numOf (bytesOf x [n]) = n := by
  rcases hx with rfl | rfl | rfl
  · exact num1 n h
  · exact num2 n h
  · exact num4 n h

/-- The row behind so many numbers. -/
def rowOf (x m : Nat) (l : List Int) : Row := ⟨over (List.replicate m 0) 0 (bytesOf x l), x * l.length⟩
theorem rowOf_nil (x m : Nat) : rowOf x m [] = ⟨List.replicate m 0, 0⟩ := by simp [rowOf, bytesOf_nil, over_nil]
theorem over_more (z a b : List UInt8) : over (over z 0 a) a.length b = over z 0 (a ++ b) := by
  simp [over, Nat.add_comm]
theorem rowOf_len (x m : Nat) (l : List Int) (hm : x * l.length ≤ m) : (rowOf x m l).bs.length = m := by
  unfold rowOf
  rw [over_length _ _ _ (by simp [bytesOf_length]; omega)]
  simp
theorem rowOf_put (x m : Nat) (hx : x = 1 ∨ x = 2 ∨ x = 4) (a b : List Int) (hm : x * (a.length + b.length) ≤ m) (hb : ∀ n ∈ b, fitsW x n = true) : (rowOf x m a).put x b = (true, rowOf x m (a ++ b)) := by
  have hw : isW (x : Int) = true := by rcases hx with rfl | rfl | rfl <;> rfl
  have h0 : 0 < x := by omega
  rw [Nat.mul_add] at hm
  have hl := rowOf_len x m a (by omega)
  have h3 : (rowOf x m a).pos + (x : Int).toNat * b.length ≤ (rowOf x m a).bs.length := by rw [hl]; simpa [rowOf] using hm
  rw [Row.put, if_pos ⟨hw, hb, h3⟩]
  simp only [rowOf, Int.toNat_natCast, Prod.mk.injEq, true_and, Row.mk.injEq]
  refine ⟨?_, by rw [List.length_append, Nat.mul_add]⟩
  rw [bytesOf_append x a b h0, ← over_more, bytesOf_length]
theorem rowOf_full (x : Nat) (l : List Int) : (rowOf x (x * l.length) l) = ⟨bytesOf x l, x * l.length⟩ := by
  simp [rowOf, over, bytesOf_length]
theorem get_one (x : Nat) (hx : x = 1 ∨ x = 2 ∨ x = 4) (l : List Int) (j : Nat) (hj : j < l.length) (hf : fitsW x (l.getD j 0) = true) : Row.get ⟨bytesOf x l, x * j⟩ x = (l.getD j 0, true, ⟨bytesOf x l, x * (j + 1)⟩) := by
  have hw : isW (x : Int) = true := by rcases hx with rfl | rfl | rfl <;> rfl
  have h0 : 0 < x := by omega
  have hle : x * j + x ≤ x * l.length := by rw [← Nat.mul_succ]; exact Nat.mul_le_mul_left x hj
  rw [Row.get, if_pos ⟨hw, by simpa [bytesOf_length] using hle⟩]
  have e : l = l.take j ++ ([l.getD j 0] ++ l.drop (j + 1)) := by
    rw [List.getD_eq_getElem?_getD, List.getElem?_eq_getElem hj]
    simp
  have e2 : ((bytesOf x l).drop (x * j)).take x = bytesOf x [l.getD j 0] := by
    conv => lhs; rw [e]
    have hl : (l.take j).length = j := by rw [List.length_take]; omega
    rw [bytesOf_append x _ _ h0, bytesOf_append x _ _ h0, List.drop_left' (by rw [bytesOf_length, hl]), List.take_left' (by simp [bytesOf_length])]
  simp only [Int.toNat_natCast, e2, num_bytes x hx _ hf, Nat.mul_add, Nat.mul_one]
theorem get_end (x : Nat) (hx : x = 1 ∨ x = 2 ∨ x = 4) (l : List Int) : Row.get ⟨bytesOf x l, x * l.length⟩ x = (0, false, ⟨bytesOf x l, x * l.length⟩) := by
  rw [Row.get, if_neg]
  simp only [bytesOf_length, Int.toNat_natCast]
  omega
end Go.Proofs.Ytbghkfjjmgmjmaa.rowBack
