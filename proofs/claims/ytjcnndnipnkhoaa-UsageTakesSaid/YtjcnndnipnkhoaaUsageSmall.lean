/- Package usage: count, has, told, State, Stamp, Live, isStamp, may, dead. -/
import Derived.Test.YtjcnndnipnkhoaaUsageMem
namespace Go.Proofs.Ytjcnndnipnkhoaa.us
set_option linter.unusedSimpArgs false
open Go.RowKit Go.Proofs.Ytjcnndnipnkhoaa.mem Go.Proofs.Ytjcnndnipnkhoaa.base Go.Proofs.Ytjcnndnipnkhoaa.geom

/-- A segment's row; zeros of none. -/
def rowAt (rs : List Rw) (i : Int) : Rw := if 0 ≤ i then (rs[i.toNat]?).getD Rw.zero else Rw.zero
theorem rowAt_yes {rs : List Rw} {i : Nat} {x : Rw} (h : rs[i]? = some x) : rowAt rs i = x := by simp [rowAt, h]
theorem rowAt_no {rs : List Rw} {i : Int} (h : ¬ (0 ≤ i ∧ i < rs.length)) : rowAt rs i = Rw.zero := by
  unfold rowAt
  split
  · rename_i h0
    rw [List.getElem?_eq_none (by omega)]
    rfl
  · rfl
def isSeg (rs : List Rw) (i : Int) : Bool := decide (0 ≤ i) && decide (i < rs.length)
theorem isSeg_yes {rs : List Rw} {i : Nat} {x : Rw} (h : rs[i]? = some x) : isSeg rs i = true := by
  have := (List.getElem?_eq_some_iff.1 h).1
  simp [isSeg, this]
theorem isSeg_no {rs : List Rw} {i : Int} (h : ¬ (0 ≤ i ∧ i < rs.length)) : isSeg rs i = false := by
  unfold isSeg
  rw [Bool.and_eq_false_iff, decide_eq_false_iff_not, decide_eq_false_iff_not]
  omega
theorem seg_cases (rs : List Rw) (i : Int) : (∃ k : Nat, ∃ x, i = k ∧ rs[k]? = some x) ∨ ¬ (0 ≤ i ∧ i < rs.length) := by
  by_cases h : 0 ≤ i ∧ i < rs.length
  · exact .inl ⟨i.toNat, _, by omega, List.getElem?_eq_getElem (by omega)⟩
  · exact .inr h

theorem set_same_row {rs : List Rw} {k : Nat} {x : Rw} (h : rs[k]? = some x) : rs.set k x = rs := by
  apply List.ext_getElem?
  intro j
  rw [List.getElem?_set]
  split
  · rename_i e
    subst e
    rw [if_pos (List.getElem?_eq_some_iff.1 h).1, h]
  · rfl
/-- One row turned. -/
def upd (rs : List Rw) (i : Int) (f : Rw → Rw) : List Rw := if 0 ≤ i ∧ i < rs.length then rs.set i.toNat (f (rowAt rs i)) else rs
theorem upd_yes {rs : List Rw} {k : Nat} {x : Rw} (h : rs[k]? = some x) (f : Rw → Rw) : upd rs k f = rs.set k (f x) := by
  have := (List.getElem?_eq_some_iff.1 h).1
  unfold upd
  rw [if_pos (by omega), rowAt_yes h]
  rfl
theorem upd_no {rs : List Rw} {i : Int} (h : ¬ (0 ≤ i ∧ i < rs.length)) (f : Rw → Rw) : upd rs i f = rs := if_neg h
theorem upd_len (rs : List Rw) (i : Int) (f : Rw → Rw) : (upd rs i f).length = rs.length := by unfold upd; split <;> simp
def Rw.grab (x : Rw) : Rw := if x.s = 0 then ⟨1, x.t, 0⟩ else x
def Rw.shut (x : Rw) : Rw := if x.s = 1 then ⟨2, x.t, x.n⟩ else x
def grabs (rs : List Rw) (i : Int) : Bool := isSeg rs i && decide ((rowAt rs i).s = 0)
def grabOf (rs : List Rw) (i : Int) : List Rw := upd rs i Rw.grab
def shutOf (rs : List Rw) (i : Int) : List Rw := upd rs i Rw.shut
def isNum (n : Int) : Bool := decide (0 ≤ n) && decide (n ≤ 2147483647)
def touchOf (rs : List Rw) (i n : Int) : List Rw := if isNum n = true then upd rs i (fun x => ⟨x.s, n, x.n⟩) else rs

theorem count_nil (w : World) :
    Calls Try.prog 63 #[.pointer none] w fun e w' => e = .returned (.int .i64 0) ∧ w = w' := by
  go_enter Try.func63, Try.ntmps63
  go_wp2
  go_ret
  exact ⟨rfl, rfl⟩

section
variable {w : World} {p V : Nat} {b s l r q : Int} {rs : List Rw}

theorem count_any (h : TAt w p V b s l r q rs) :
    Calls Try.prog 63 #[.pointer (some ⟨p, 0, none⟩)] w fun e w' => e = .returned (.int .i64 rs.length) ∧ w = w' := by
  have c1 := h.c1
  clear h
  go_enter Try.func63, Try.ntmps63
  go_wp2
  go_ret
  exact ⟨rfl, rfl⟩

theorem has_any (h : TAt w p V b s l r q rs) (i : Int) :
    Calls Try.prog 51 #[.pointer (some ⟨p, 0, none⟩), .int .i64 i] w fun e w' => e = .returned (.bool (isSeg rs i)) ∧ w = w' := by
  have H := hide h
  clear h
  unfold isSeg
  by_cases hi : 0 ≤ i
  · go_enter Try.func51, Try.ntmps51
    go_wp2_with fail
    refine (count_any H.out).mono ?_
    rintro e w' ⟨rfl, rfl⟩
    go_wp2
    go_ret
    exact ⟨by simp [hi], rfl⟩
  · have hd : decide (0 ≤ i) = false := decide_eq_false hi
    go_enter Try.func51, Try.ntmps51
    go_wp2
    go_ret
    exact ⟨rfl, rfl⟩

set_option maxRecDepth 100000 in
theorem told_any (h : TAt w p V b s l r q rs) (i : Int) :
    Calls Try.prog 59 #[.pointer (some ⟨p, 0, none⟩), .int .i64 i] w fun e w' => e = .returned (.agg #[.int .i64 (rowAt rs i).s, .int .i64 (rowAt rs i).t, .int .i64 (rowAt rs i).n]) ∧ Kept [] w w' := by
  have HK := hide fun vs : Array Value => (Kept.refl [] w).alloc (.cells vs 76)
  have H := hide (h.keep ((Kept.refl [] w).alloc (.cells #[.int .i64 0, .int .i64 0, .int .i64 0] 76)))
  have hb := h.bounds
  rcases seg_cases rs i with ⟨k, x, rfl, hx⟩ | hi
  · rw [rowAt_yes hx]
    have HY := hide (isSeg_yes hx)
    have c1 := H.out.c1
    obtain ⟨d0, d1, d2⟩ := H.out.cells hx
    have hlt : k < rs.length := (List.getElem?_eq_some_iff.1 hx).1
    clear h hx
    go_enter Try.func59, Try.ntmps59
    go_wp2_with fail
    refine (has_any H.out _).mono ?_
    rintro e w' ⟨rfl, rfl⟩
    rw [HY.out]
    go_wp2
    refine bodyPost_ret (v := .agg #[.int .i64 x.s, .int .i64 x.t, .int .i64 x.n]) (by simp [results, Try.results59, go_sem]) rfl ⟨rfl, ?_⟩
    exact HK.out _
  · rw [rowAt_no hi]
    have HY := hide (isSeg_no hi)
    clear h hi
    go_enter Try.func59, Try.ntmps59
    go_wp2_with fail
    refine (has_any H.out _).mono ?_
    rintro e w' ⟨rfl, rfl⟩
    rw [HY.out]
    go_wp2
    refine bodyPost_ret (v := .agg #[.int .i64 0, .int .i64 0, .int .i64 0]) (by simp [results, Try.results59, go_sem]) rfl ⟨rfl, ?_⟩
    exact HK.out _

theorem seg_use (x y z : Int) (w : World) : (Instr.field 76 (.agg #[.int .i64 x, .int .i64 y, .int .i64 z]) 0).run Try.prog w = .ok (.agg #[.int .i64 x, .int .i64 y]) w := by kernel_rfl
theorem seg_live (x y z : Int) (w : World) : (Instr.field 76 (.agg #[.int .i64 x, .int .i64 y, .int .i64 z]) 1).run Try.prog w = .ok (.int .i64 z) w := by kernel_rfl
theorem use_state (x y : Int) (w : World) : (Instr.field 61 (.agg #[.int .i64 x, .int .i64 y]) 0).run Try.prog w = .ok (.int .i64 x) w := by kernel_rfl
theorem use_stamp (x y : Int) (w : World) : (Instr.field 61 (.agg #[.int .i64 x, .int .i64 y]) 1).run Try.prog w = .ok (.int .i64 y) w := by kernel_rfl

theorem state_any (h : TAt w p V b s l r q rs) (i : Int) :
    Calls Try.prog 27 #[.pointer (some ⟨p, 0, none⟩), .int .i64 i] w fun e w' => e = .returned (.int .i64 (rowAt rs i).s) ∧ Kept [] w w' := by
  have H := hide h
  clear h
  go_enter Try.func27, Try.ntmps27
  go_wp2_with fail
  refine (told_any H.out i).mono ?_
  rintro e w1 ⟨rfl, hk⟩
  have f1 := seg_use
  have f2 := use_state
  go_wp2
  go_ret
  exact ⟨rfl, hk⟩
theorem stamp_any (h : TAt w p V b s l r q rs) (i : Int) :
    Calls Try.prog 43 #[.pointer (some ⟨p, 0, none⟩), .int .i64 i] w fun e w' => e = .returned (.int .i64 (rowAt rs i).t) ∧ Kept [] w w' := by
  have H := hide h
  clear h
  go_enter Try.func43, Try.ntmps43
  go_wp2_with fail
  refine (told_any H.out i).mono ?_
  rintro e w1 ⟨rfl, hk⟩
  have f1 := seg_use
  have f2 := use_stamp
  go_wp2
  go_ret
  exact ⟨rfl, hk⟩
theorem live_any (h : TAt w p V b s l r q rs) (i : Int) :
    Calls Try.prog 31 #[.pointer (some ⟨p, 0, none⟩), .int .i64 i] w fun e w' => e = .returned (.int .i64 (rowAt rs i).n) ∧ Kept [] w w' := by
  have H := hide h
  clear h
  go_enter Try.func31, Try.ntmps31
  go_wp2_with fail
  refine (told_any H.out i).mono ?_
  rintro e w1 ⟨rfl, hk⟩
  have f1 := seg_live
  go_wp2
  go_ret
  exact ⟨rfl, hk⟩

def Rw.dead (x : Rw) : Bool := decide (x.s = 2) && decide (x.n = 0)
theorem dead_any (h : TAt w p V b s l r q rs) (i : Nat) (x : Rw) (hx : rs[i]? = some x) :
    Calls Try.prog 57 #[.pointer (some ⟨V, i * 3, none⟩)] w fun e w' => e = .returned (.bool x.dead) ∧ w = w' := by
  obtain ⟨d0, d1, d2⟩ := h.cells hx
  clear h hx
  unfold Rw.dead
  by_cases h2 : x.s = 2
  · have e2 : (x.s == 2) = true := beq_iff_eq.2 h2
    go_enter Try.func57, Try.ntmps57
    go_wp2
    go_ret
    exact ⟨by simp [h2]; try rfl, rfl⟩
  · have e2 : (x.s == 2) = false := beq_eq_false_iff_ne.2 h2
    go_enter Try.func57, Try.ntmps57
    go_wp2
    go_ret
    exact ⟨by simp [h2]; try rfl, rfl⟩
end

theorem isStamp_any (n : Int) (w : World) :
    Calls Try.prog 52 #[.int .i64 n] w fun e w' => e = .returned (.bool (isNum n)) ∧ w = w' := by
  unfold isNum
  by_cases hi : 0 ≤ n
  · go_enter Try.func52, Try.ntmps52
    go_wp2
    go_ret
    exact ⟨by simp [hi], rfl⟩
  · have hd : decide (0 ≤ n) = false := decide_eq_false hi
    go_enter Try.func52, Try.ntmps52
    go_wp2
    go_ret
    exact ⟨rfl, rfl⟩

def mayUse (x y : Int) : Bool := (decide (0 ≤ x) && decide (x ≤ 2)) && isNum y
theorem mayUse_iff (x y : Int) : mayUse x y = true ↔ (0 ≤ x ∧ x ≤ 2) ∧ (0 ≤ y ∧ y ≤ 2147483647) := by simp [mayUse, isNum]
theorem mayUse_any (x y : Int) (w : World) :
    Calls Try.prog 40 #[.agg #[.int .i64 x, .int .i64 y]] w fun e w' => e = .returned (.bool (mayUse x y)) ∧ Kept [] w w' := by
  have hk := hide ((Kept.refl [] w).alloc (.cells #[.int .i64 x, .int .i64 y] 61))
  unfold mayUse
  by_cases h1 : 0 ≤ x
  · by_cases h2 : x ≤ 2
    · go_enter Try.func40, Try.ntmps40
      go_wp2_with fail
      refine (isStamp_any y _).mono ?_
      rintro e w1 ⟨rfl, rfl⟩
      go_wp2
      go_ret
      exact ⟨by simp [h1, h2], hk.out⟩
    · have hd : decide (x ≤ 2) = false := decide_eq_false h2
      go_enter Try.func40, Try.ntmps40
      go_wp2
      go_ret
      exact ⟨by simp [hd], hk.out⟩
  · have hd : decide (0 ≤ x) = false := decide_eq_false h1
    go_enter Try.func40, Try.ntmps40
    go_wp2
    go_ret
    exact ⟨by simp [hd], hk.out⟩
end Go.Proofs.Ytjcnndnipnkhoaa.us
