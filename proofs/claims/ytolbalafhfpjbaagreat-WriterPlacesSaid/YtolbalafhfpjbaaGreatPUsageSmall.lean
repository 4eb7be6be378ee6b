import Derived.Test.YtolbalafhfpjbaaGreatPUsageMem
namespace Go.Proofs.YtolbalafhfpjbaaGreat.us
open Go.RowKit mem base geom
end Go.Proofs.YtolbalafhfpjbaaGreat.us

namespace Go.Proofs.YtolbalafhfpjbaaGreat.us
set_option linter.unusedSimpArgs false
open Go.RowKit mem base geom
def rowAt (rs : List Rw) (i : Int) : Rw := if 0 ≤ i then (rs[i.toNat]?).getD Rw.zero else Rw.zero
theorem rowAt_yes {rs : List Rw} {i : Nat} {x : Rw} (h : rs[i]? = some x) : rowAt rs i = x := by simp [rowAt, h]
theorem rowAt_no {rs : List Rw} {i : Int} (h : ¬ (0 ≤ i ∧ i < rs.length)) : rowAt rs i = Rw.zero := by
 unfold rowAt
 split
 ·rename_i h0
  rw [List.getElem?_eq_none (by omega)]
  rfl
 ·rfl
def isSeg (rs : List Rw) (i : Int) : Bool := decide (0 ≤ i) && decide (i < rs.length)
theorem isSeg_yes {rs : List Rw} {i : Nat} {x : Rw} (h : rs[i]? = some x) : isSeg rs i = true := by
 have := (List.getElem?_eq_some_iff.1 h).1
 simp [isSeg, this]
theorem isSeg_no {rs : List Rw} {i : Int} (h : ¬ (0 ≤ i ∧ i < rs.length)) : isSeg rs i = false := by
 unfold isSeg
 rw [Bool.and_eq_false_iff, decide_eq_false_iff_not, decide_eq_false_iff_not]
 omega
theorem seg_cases (rs : List Rw) (i : Int) : (∃ k : Nat, ∃ x, i = k ∧ rs[k]? = some x) ∨ ¬ (0 ≤ i ∧ i < rs.length) := by
 by_cases h : 0 ≤ i ∧ i < rs.length
 ·exact .inl ⟨i.toNat, _, by omega, List.getElem?_eq_getElem (by omega)⟩
 ·exact .inr h

theorem set_same_row {rs : List Rw} {k : Nat} {x : Rw} (h : rs[k]? = some x) : rs.set k x = rs := by
 apply List.ext_getElem?
 intro j
 rw [List.getElem?_set]
 split
 ·rename_i e
  subst e
  rw [if_pos (List.getElem?_eq_some_iff.1 h).1, h]
 ·rfl
def upd (rs : List Rw) (i : Int) (f : Rw → Rw) : List Rw := if 0 ≤ i ∧ i < rs.length then rs.set i.toNat (f (rowAt rs i)) else rs
theorem upd_yes {rs : List Rw} {k : Nat} {x : Rw} (h : rs[k]? = some x) (f : Rw → Rw) : upd rs k f = rs.set k (f x) := by
 have := (List.getElem?_eq_some_iff.1 h).1
 unfold upd
 rw [if_pos (by omega), rowAt_yes h]
 rfl
theorem upd_no {rs : List Rw} {i : Int} (h : ¬ (0 ≤ i ∧ i < rs.length)) (f : Rw → Rw) : upd rs i f = rs := if_neg h
def Rw.grab (x : Rw) : Rw := if x.s = 0 then ⟨1, x.t, 0⟩ else x
def Rw.shut (x : Rw) : Rw := if x.s = 1 then ⟨2, x.t, x.n⟩ else x
def grabs (rs : List Rw) (i : Int) : Bool := isSeg rs i && decide ((rowAt rs i).s = 0)
def grabOf (rs : List Rw) (i : Int) : List Rw := upd rs i Rw.grab
def shutOf (rs : List Rw) (i : Int) : List Rw := upd rs i Rw.shut
def isNum (n : Int) : Bool := decide (0 ≤ n) && decide (n ≤ 2147483647)
def touchOf (rs : List Rw) (i n : Int) : List Rw := if isNum n = true then upd rs i (fun x => ⟨x.s, n, x.n⟩) else rs

theorem count_nil (w : World) :
  Calls Tryz.prog 178 #[.pointer none] w fun e w' => e = .returned (.int .i64 0) ∧ w = w' := by
 go_enter Tryz.func178, Tryz.ntmps178
 go_wp2
 go_ret
 exact ⟨rfl, rfl⟩

section
variable {w : World} {p V : Nat} {b s l r q : Int} {rs : List Rw}
theorem count_any (h : TAt w p V b s l r q rs) :
  Calls Tryz.prog 178 #[.pointer (some ⟨p, 0, none⟩)] w fun e w' => e = .returned (.int .i64 rs.length) ∧ w = w' := by
 have c1 := h.c1
 clear h
 go_enter Tryz.func178, Tryz.ntmps178
 go_wp2
 go_ret
 exact ⟨rfl, rfl⟩

theorem has_any (h : TAt w p V b s l r q rs) (i : Int) :
  Calls Tryz.prog 162 #[.pointer (some ⟨p, 0, none⟩), .int .i64 i] w fun e w' => e = .returned (.bool (isSeg rs i)) ∧ w = w' := by
 have H := hide h
 clear h
 unfold isSeg
 by_cases hi : 0 ≤ i
 ·go_enter Tryz.func162, Tryz.ntmps162
  go_wp2_with fail
  refine (count_any H.out).mono ?_
  rintro e w' ⟨rfl, rfl⟩
  go_wp2
  go_ret
  exact ⟨by simp [hi], rfl⟩
 ·have hd : decide (0 ≤ i) = false := decide_eq_false hi
  go_enter Tryz.func162, Tryz.ntmps162
  go_wp2
  go_ret
  exact ⟨rfl, rfl⟩

set_option maxRecDepth 100000 in
theorem told_any (h : TAt w p V b s l r q rs) (i : Int) :
  Calls Tryz.prog 127 #[.pointer (some ⟨p, 0, none⟩), .int .i64 i] w fun e w' => e = .returned (.agg #[.int .i64 (rowAt rs i).s, .int .i64 (rowAt rs i).t, .int .i64 (rowAt rs i).n]) ∧ Kept [] w w' := by
 have HK := hide fun vs : Array Value => (Kept.refl [] w).alloc (.cells vs 201)
 have H := hide (h.keep ((Kept.refl [] w).alloc (.cells #[.int .i64 0, .int .i64 0, .int .i64 0] 201)))
 have hb := h.bounds
 rcases seg_cases rs i with ⟨k, x, rfl, hx⟩ | hi
 ·rw [rowAt_yes hx]
  have HY := hide (isSeg_yes hx)
  have c1 := H.out.c1
  obtain ⟨d0, d1, d2⟩ := H.out.cells hx
  have hlt : k < rs.length := (List.getElem?_eq_some_iff.1 hx).1
  clear h hx
  go_enter Tryz.func127, Tryz.ntmps127
  go_wp2_with fail
  refine (has_any H.out _).mono ?_
  rintro e w' ⟨rfl, rfl⟩
  rw [HY.out]
  go_wp2
  refine bodyPost_ret (v := .agg #[.int .i64 x.s, .int .i64 x.t, .int .i64 x.n]) (by simp [results, Tryz.results127, go_sem]) rfl ⟨rfl, ?_⟩
  exact HK.out _
 ·rw [rowAt_no hi]
  have HY := hide (isSeg_no hi)
  clear h hi
  go_enter Tryz.func127, Tryz.ntmps127
  go_wp2_with fail
  refine (has_any H.out _).mono ?_
  rintro e w' ⟨rfl, rfl⟩
  rw [HY.out]
  go_wp2
  refine bodyPost_ret (v := .agg #[.int .i64 0, .int .i64 0, .int .i64 0]) (by simp [results, Tryz.results127, go_sem]) rfl ⟨rfl, ?_⟩
  exact HK.out _

theorem seg_use (x y z : Int) (w : World) : (Instr.field 201 (.agg #[.int .i64 x, .int .i64 y, .int .i64 z]) 0).run Tryz.prog w = .ok (.agg #[.int .i64 x, .int .i64 y]) w := by kernel_rfl
theorem use_state (x y : Int) (w : World) : (Instr.field 199 (.agg #[.int .i64 x, .int .i64 y]) 0).run Tryz.prog w = .ok (.int .i64 x) w := by kernel_rfl
theorem state_any (h : TAt w p V b s l r q rs) (i : Int) :
  Calls Tryz.prog 63 #[.pointer (some ⟨p, 0, none⟩), .int .i64 i] w fun e w' => e = .returned (.int .i64 (rowAt rs i).s) ∧ Kept [] w w' := by
 have H := hide h
 clear h
 go_enter Tryz.func63, Tryz.ntmps63
 go_wp2_with fail
 refine (told_any H.out i).mono ?_
 rintro e w1 ⟨rfl, hk⟩
 have f1 := seg_use
 have f2 := use_state
 go_wp2
 go_ret
 exact ⟨rfl, hk⟩

def Rw.dead (x : Rw) : Bool := decide (x.s = 2) && decide (x.n = 0)
end
theorem isStamp_any (n : Int) (w : World) :
  Calls Tryz.prog 197 #[.int .i64 n] w fun e w' => e = .returned (.bool (isNum n)) ∧ w = w' := by
 unfold isNum
 by_cases hi : 0 ≤ n
 ·go_enter Tryz.func197, Tryz.ntmps197
  go_wp2
  go_ret
  exact ⟨by simp [hi], rfl⟩
 ·have hd : decide (0 ≤ n) = false := decide_eq_false hi
  go_enter Tryz.func197, Tryz.ntmps197
  go_wp2
  go_ret
  exact ⟨rfl, rfl⟩

def mayUse (x y : Int) : Bool := (decide (0 ≤ x) && decide (x ≤ 2)) && isNum y
theorem mayUse_iff (x y : Int) : mayUse x y = true ↔ (0 ≤ x ∧ x ≤ 2) ∧ (0 ≤ y ∧ y ≤ 2147483647) := by simp [mayUse, isNum]
end Go.Proofs.YtolbalafhfpjbaaGreat.us
