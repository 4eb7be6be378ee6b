/- What the pure disk answers, for the statements. -/
import Derived.Test.YteobkgajebbpaaaDiskAwake
namespace Go.Proofs.Yteobkgajebbpaaa.disk
open Go.RowKit Go.Proofs.Yteobkgajebbpaaa.mem Go.Proofs.Yteobkgajebbpaaa.base

theorem has_of {D : Dk} {i : Nat} (h : i < D.n) : D.has i = true := decide_eq_true (by omega)
theorem write_eq {D : Dk} {i : Nat} {b : List UInt8} (h : i < D.n) (hl : b.length = 64) (ht : D.tick = true) : D.write i b = (0, { D.ticked with held := D.held ++ [(i, b)] }) := by
  unfold Dk.write
  rw [has_of h, hl, ht, Int.toNat_natCast]
  rfl
theorem write_eq_off {D : Dk} {i : Nat} {b : List UInt8} (h : i < D.n) (hl : b.length = 64) (ht : D.tick = false) : D.write i b = (3, D.ticked) := by
  unfold Dk.write
  rw [has_of h, hl, ht]
  rfl
theorem read_eq {D : Dk} {i : Nat} (h : i < D.n) (ho : D.off = false) : D.read i = if D.faults.getD i false then (4, []) else (0, sec D.now i) := by
  unfold Dk.read
  rw [has_of h, ho, Int.toNat_natCast]
  rfl
theorem fault_eq {D : Dk} {i : Nat} (o : Bool) (h : i < D.n) : D.faulted i o = (0, { D with faults := D.faults.set i o }) := by
  unfold Dk.faulted
  rw [has_of h, Int.toNat_natCast]
  rfl
theorem set_self (l : List Bool) (i : Nat) (o : Bool) (h : i < l.length) : (l.set i o).getD i false = o := by
  rw [List.getD_eq_getElem?_getD, List.getElem?_set, if_pos rfl, if_pos h]
  rfl
theorem set_far (l : List Bool) (i j : Nat) (o : Bool) (h : i ≠ j) : (l.set i o).getD j false = l.getD j false := by
  rw [List.getD_eq_getElem?_getD, List.getD_eq_getElem?_getD, List.getElem?_set, if_neg h]
theorem sec_one (n i : Nat) (s b : List UInt8) (hs : s.length = 64 * n) (hi : i < n) (hb : b.length = 64) : sec (lay s (64 * i) b) i = b := by
  rw [sec_lay_same s i n b hs hi (by omega), lay_all _ _ (by rw [sec_length s i n hs hi]; exact hb)]
theorem rep_false (n i : Nat) : (List.replicate n false).getD i false = false := by
  rw [List.getD_eq_getElem?_getD, List.getElem?_replicate]
  split <;> rfl
theorem fresh_none {w w' : World} {A : Option Addr} {c : Nat} {bs : List UInt8} (h : Fresh w w' A 0 c bs) : bs = [] := List.eq_nil_of_length_eq_zero h.1
theorem new_n (n : Nat) : (Dk.new n).n = n := List.length_replicate

theorem and1 (n : Int) : bits .and .i64 n 1 = n % 2 := by
  have h1 : (BitVec.ofInt 64 1).toNat = 2 ^ 1 - 1 := by decide
  have key : (BitVec.ofInt 64 n &&& BitVec.ofInt 64 1).toNat = (n % ((2 ^ 64 : Nat) : Int)).toNat % 2 ^ 1 := by
    rw [BitVec.toNat_and, BitVec.toNat_ofInt, h1, Nat.and_two_pow_sub_one_eq_mod]
  show IntKind.i64.wrap ((BitVec.ofInt 64 n &&& BitVec.ofInt 64 1).toNat : Nat) = n % 2
  rw [key, IntKind.wrap_i64]
  omega
theorem and3 (n : Int) : bits .and .i64 n 3 = n % 4 := by
  have h1 : (BitVec.ofInt 64 3).toNat = 2 ^ 2 - 1 := by decide
  have key : (BitVec.ofInt 64 n &&& BitVec.ofInt 64 3).toNat = (n % ((2 ^ 64 : Nat) : Int)).toNat % 2 ^ 2 := by
    rw [BitVec.toNat_and, BitVec.toNat_ofInt, h1, Nat.and_two_pow_sub_one_eq_mod]
  show IntKind.i64.wrap ((BitVec.ofInt 64 n &&& BitVec.ofInt 64 3).toNat : Nat) = n % 4
  rw [key, IntKind.wrap_i64]
  omega
end Go.Proofs.Yteobkgajebbpaaa.disk
