import Derived.Test.YtolbalafhfpjbaaGreatPRefCore
import Derived.Test.YtolbalafhfpjbaaGreatPRowCore
namespace Go.Proofs.YtolbalafhfpjbaaGreat.rowBack
open Go.RowKit mem row ref
theorem num1 (n : Int) (h : fitsW 1 n = true) : numOf (bytesOf 1 [n]) = n := by
 have h' : 0 ≤ n ∧ n < 256 := by simpa [fitsW] using h
 simp only [bytesOf, numOf, row.byteOf, List.length_singleton, List.range, List.range.loop, List.map, List.foldr, UInt8.toNat_ofNat', Nat.reduceMul, Nat.reduceDiv, Nat.reduceMod, List.getD_cons_zero, Int.pow_zero]
 omega
theorem num2 (n : Int) (h : fitsW 2 n = true) : numOf (bytesOf 2 [n]) = n := by
 have h' : 0 ≤ n ∧ n < 65536 := by simpa [fitsW] using h
 simp only [bytesOf, numOf, row.byteOf, List.length_singleton, List.range, List.range.loop, List.map, List.foldr, UInt8.toNat_ofNat', Nat.reduceMul, Nat.reduceDiv, Nat.reduceMod, List.getD_cons_zero, Int.pow_zero, Int.reducePow]
 omega
theorem num4 (n : Int) (h : fitsW 4 n = true) : numOf (bytesOf 4 [n]) = n := by
 have h' : 0 ≤ n ∧ n < 4294967296 := by simpa [fitsW] using h
 simp only [bytesOf, numOf, row.byteOf, List.length_singleton, List.range, List.range.loop, List.map, List.foldr, UInt8.toNat_ofNat', Nat.reduceMul, Nat.reduceDiv, Nat.reduceMod, List.getD_cons_zero, Int.pow_zero, Int.reducePow]
 omega
theorem num_bytes (x : Nat) (hx : x = 1 ∨ x = 2 ∨ x = 4) (n : Int) (h : fitsW x n = true) : numOf (bytesOf x [n]) = n := by
 rcases hx with rfl | rfl | rfl
 ·exact num1 n h
 ·exact num2 n h
 ·exact num4 n h

end Go.Proofs.YtolbalafhfpjbaaGreat.rowBack
namespace Go.Proofs.YtolbalafhfpjbaaGreat.fill
open Go.RowKit mem row rowBack
theorem over_zeros (n : Nat) (a b : List UInt8) : over (a ++ List.replicate (n - a.length) 0) a.length b = (a ++ b) ++ List.replicate (n - (a ++ b).length) 0 := by
 unfold over
 rw [List.take_left, List.append_assoc a b, show a.length + b.length = a.length + b.length from rfl, List.drop_append]
 rw [List.drop_eq_nil_of_le (by omega : a.length ≤ a.length + b.length), List.nil_append, List.drop_replicate]
 rw [show n - a.length - (a.length + b.length - a.length) = n - (a ++ b).length by simp; omega]
def rowF (n : Nat) (a : List UInt8) : Row := ⟨a ++ List.replicate (n - a.length) 0, a.length⟩
theorem rowF_nil (n : Nat) : (⟨List.replicate n 0, 0⟩ : Row) = rowF n [] := by simp [rowF]
theorem rowF_len (n : Nat) (a : List UInt8) (h : a.length ≤ n) : (rowF n a).bs.length = n := by simp [rowF]; omega
theorem rowF_full (n : Nat) (a : List UInt8) (h : a.length = n) : (rowF n a).bs = a := by simp [rowF, h]
theorem rowF_put (n : Nat) (a : List UInt8) (x : Nat) (l : List Int) (hx : isW (x : Int) = true) (hf : ∀ m ∈ l, fitsW x m = true) (h : a.length + x * l.length ≤ n) : (rowF n a).put x l = (true, rowF n (a ++ bytesOf x l)) := by
 have hb := bytesOf_length x l
 have hl := rowF_len n a (by omega)
 unfold Row.put
 rw [if_pos ⟨hx, hf, by rw [hl, Int.toNat_natCast]; exact h⟩, Int.toNat_natCast]
 refine Prod.ext rfl (Row.same ⟨?_, ?_⟩)
 ·exact over_zeros n a _
 ·simp [rowF, hb]
theorem rowF_lay (n : Nat) (a xs : List UInt8) (h : a.length + xs.length ≤ n) : (rowF n a).lay xs = (true, rowF n (a ++ xs)) := by
 have hl := rowF_len n a (by omega)
 unfold Row.lay
 rw [if_pos (by rw [hl]; exact h)]
 refine Prod.ext rfl (Row.same ⟨?_, ?_⟩)
 ·exact over_zeros n a _
 ·simp [rowF]

theorem get_bd (R : Row) (x : Nat) : 0 ≤ (R.get x).1 ∧ (R.get x).1 < 256 ^ x := by
 unfold Row.get
 split
 ·have h := numOf_bd ((R.bs.drop R.pos).take (x : Int).toNat)
  have hle : ((R.bs.drop R.pos).take (x : Int).toNat).length ≤ x := Nat.le_trans (List.length_take_le _ _) (by rw [Int.toNat_natCast]; exact Nat.le_refl _)
  refine ⟨h.1, Int.lt_of_lt_of_le h.2 ?_⟩
  clear h
  generalize ((R.bs.drop R.pos).take (x : Int).toNat).length = k at hle
  have h3 := Int.ofNat_le.2 (Nat.pow_le_pow_right (show 0 < 256 by omega) hle)
  rwa [Int.natCast_pow, Int.natCast_pow] at h3
 ·exact ⟨Int.le_refl 0, Int.pow_pos (by omega)⟩
end Go.Proofs.YtolbalafhfpjbaaGreat.fill
