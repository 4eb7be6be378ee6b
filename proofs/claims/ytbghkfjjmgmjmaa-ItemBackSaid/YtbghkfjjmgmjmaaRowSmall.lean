import Derived.Test.YtbghkfjjmgmjmaaRows
import Derived.Test.YtbghkfjjmgmjmaaMem
import Derived.WalkKit
import Derived.RegionTactic
import Derived.ChangeAlike
import Derived.Deep.QuietTactic
import Derived.BigQuiet
import Derived.WalkLawsBesides
import Derived.WalkSpells
import Derived.Deep.OwnRows
namespace Go.Proofs.Ytbghkfjjmgmjmaa.row
open Go.RowKit Go.Proofs.Ytbghkfjjmgmjmaa.mem

/-- The widths that numbers may have. -/
def isW (x : Int) : Bool := x == 1 || x == 2 || x == 4

theorem isWidth_any (x : Int) (w : World) :
    Calls Try.prog 35 #[.int .i64 x] w fun e w' => e = .returned (.bool (isW x)) ∧ w = w' := by
  by_cases h1 : x = 1
  · subst h1; go_enter Try.func35, Try.ntmps35; go_wp2; go_ret; exact ⟨rfl, rfl⟩
  by_cases h2 : x = 2
  · subst h2; go_enter Try.func35, Try.ntmps35; go_wp2; go_ret; exact ⟨rfl, rfl⟩
  · have e1 : (x == 1) = false := beq_eq_false_iff_ne.2 h1
    have e2 : (x == 2) = false := beq_eq_false_iff_ne.2 h2
    go_enter Try.func35, Try.ntmps35
    go_wp2
    go_ret
    exact ⟨by simp [isW, e1, e2], rfl⟩

theorem isWidth_yes (x : Int) (w : World) (h : isW x = true) : Calls Try.prog 35 #[.int .i64 x] w fun e w' => e = .returned (.bool true) ∧ w = w' :=
  (isWidth_any x w).mono fun e w' ⟨he, hw⟩ => ⟨by rw [he, h], hw⟩
theorem isWidth_no (x : Int) (w : World) (h : isW x = false) : Calls Try.prog 35 #[.int .i64 x] w fun e w' => e = .returned (.bool false) ∧ w = w' :=
  (isWidth_any x w).mono fun e w' ⟨he, hw⟩ => ⟨by rw [he, h], hw⟩

/-- Left of a row whose bytes are so many, at a place. -/
theorem left_any (p : Nat) (a : Option Addr) (len cap : Nat) (pl : Int) (w : World)
    (h0 : w.cell? ⟨p, 0, none⟩ = some (.slice a len cap)) (h1 : w.cell? ⟨p, 1, none⟩ = some (.int .i64 pl)) (hp : 0 ≤ pl) (hl : pl ≤ len) (hm : len ≤ 65536) :
    Calls Try.prog 43 #[.pointer (some ⟨p, 0, none⟩)] w fun e w' => e = .returned (.int .i64 (len - pl)) ∧ ∃ n, w' = w.drewN n := by
  go_enter Try.func43, Try.ntmps43
  go_wp2
  go_quiet (fail)
  go_wp2
  go_ret
  exact ⟨rfl, _, rfl⟩
theorem left_nil (w : World) :
    Calls Try.prog 43 #[.pointer none] w fun e w' => e = .returned (.int .i64 0) ∧ w = w' := by
  go_enter Try.func43, Try.ntmps43
  go_wp2
  go_ret
  exact ⟨rfl, rfl⟩

theorem ret_cut {A : Option Addr} {n n' c c' : Nat} {t : Bool} (h : n = n') (k : c = c') : Ending.returned (.tuple #[.slice A n c, .bool t]) = Ending.returned (.tuple #[.slice A n' c', .bool t]) := by rw [h, k]

set_option maxHeartbeats 400000 in
theorem next_ok (p b : Nat) (A : Option Addr) (len cap : Nat) (pl n : Int) (w : World)
    (h0 : w.cell? ⟨p, 0, none⟩ = some (.slice A len cap)) (h1 : w.cell? ⟨p, 1, none⟩ = some (.int .i64 pl)) (hf : w.frozen? ⟨p, 1, none⟩ = false) (hp : 0 ≤ pl) (hl : pl ≤ len) (hm : len ≤ 65536) (hlc : len ≤ cap)
    (hA : A = some ⟨b, 0, none⟩ ∨ A = none ∧ cap = 0) (hn0 : 0 ≤ n) (hn : n ≤ len - pl) :
    Calls Try.prog 37 #[.pointer (some ⟨p, 0, none⟩), .int .i64 n] w fun e w' =>
      ∃ A', e = .returned (.tuple #[.slice A' n.toNat (cap - pl.toNat), .bool true]) ∧ (0 < n → A' = some ⟨b, pl.toNat, none⟩) ∧ (A' = none → cap = 0) ∧ ∃ k, w' = (w.drewN k).setCell ⟨p, 1, none⟩ (.int .i64 (pl + n)) := by
  have HQ : Hid ((pl + n).toNat - pl.toNat = n.toNat) := hide (by omega)
  rcases hA with rfl | ⟨rfl, rfl⟩
  · by_cases hc : cap = pl.toNat
    · have hn' : Hid (¬ 0 < n) := hide (by omega)
      go_enter Try.func37, Try.ntmps37
      go_wp2_with (go_at_call 43; refine (left_any _ _ _ _ _ _ h0 h1 hp hl hm).mono ?_; rintro e w' ⟨rfl, k, rfl⟩)
      go_quiet (fail)
      go_wp2
      go_ret2
      exact ⟨_, ret_cut HQ.out (by omega), fun h => absurd h (by have := hn'.out; omega), (by first | trivial | (intro h; first | rfl | (cases h))), _, rfl⟩
    · go_enter Try.func37, Try.ntmps37
      go_wp2_with (go_at_call 43; refine (left_any _ _ _ _ _ _ h0 h1 hp hl hm).mono ?_; rintro e w' ⟨rfl, k, rfl⟩)
      go_quiet (fail)
      go_wp2
      go_ret2
      exact ⟨_, ret_cut HQ.out rfl, fun _ => rfl, (by first | trivial | (intro h; cases h)), _, rfl⟩
  · have hn' : Hid (¬ 0 < n) := hide (by omega)
    go_enter Try.func37, Try.ntmps37
    go_wp2_with (go_at_call 43; refine (left_any _ _ _ _ _ _ h0 h1 hp hl hm).mono ?_; rintro e w' ⟨rfl, k, rfl⟩)
    go_quiet (fail)
    go_wp2
    go_ret2
    exact ⟨_, ret_cut HQ.out (by omega), fun h => absurd h (by have := hn'.out; omega), (by first | trivial | (intro h; first | rfl | (cases h))), _, rfl⟩

theorem next_no (p : Nat) (A : Option Addr) (len cap : Nat) (pl n : Int) (w : World)
    (h0 : w.cell? ⟨p, 0, none⟩ = some (.slice A len cap)) (h1 : w.cell? ⟨p, 1, none⟩ = some (.int .i64 pl)) (hp : 0 ≤ pl) (hl : pl ≤ len) (hm : len ≤ 65536) (hn : n < 0 ∨ len - pl < n) :
    Calls Try.prog 37 #[.pointer (some ⟨p, 0, none⟩), .int .i64 n] w fun e w' =>
      e = .returned (.tuple #[.slice none 0 0, .bool false]) ∧ ∃ k, w' = w.drewN k := by
  by_cases hn0 : n < 0
  · go_enter Try.func37, Try.ntmps37
    go_wp2
    go_ret2
    exact ⟨rfl, 0, rfl⟩
  · have hn1 : len - pl < n := by omega
    clear hn
    go_enter Try.func37, Try.ntmps37
    go_wp2_with (go_at_call 43; refine (left_any _ _ _ _ _ _ h0 h1 hp hl hm).mono ?_; rintro e w' ⟨rfl, k, rfl⟩)
    go_ret2
    exact ⟨rfl, _, rfl⟩

theorem next_nil (n : Int) (w : World) :
    Calls Try.prog 37 #[.pointer none, .int .i64 n] w fun e w' => e = .returned (.tuple #[.slice none 0 0, .bool false]) ∧ w = w' := by
  go_enter Try.func37, Try.ntmps37
  go_wp2
  go_ret2
  exact ⟨rfl, rfl⟩

/-- Whether numbers of that width have room for it. -/
def fitsW (x n : Int) : Bool := decide (0 ≤ n ∧ n < 256 ^ x.toNat)

theorem holds_any (x n : Int) (w : World) (hx : isW x = true) :
    Calls Try.prog 36 #[.int .i64 x, .int .i64 n] w fun e w' => e = .returned (.bool (fitsW x n)) ∧ w = w' := by
  have hx' : x = 1 ∨ x = 2 ∨ x = 4 := by simpa [isW, or_assoc] using hx
  clear hx
  rcases hx' with rfl | rfl | rfl
  · have e : (n / 256 == 0) = fitsW 1 n := by
      unfold fitsW; rw [Bool.eq_iff_iff, beq_iff_eq, decide_eq_true_iff, show (256 : Int) ^ (1 : Int).toNat = 256 from rfl]; omega
    have E := hide e
    clear e
    go_enter Try.func36, Try.ntmps36
    go_wp2
    go_ret
    exact ⟨by rw [← E.out]; rfl, rfl⟩
  · have e : (n / 65536 == 0) = fitsW 2 n := by
      unfold fitsW; rw [Bool.eq_iff_iff, beq_iff_eq, decide_eq_true_iff, show (256 : Int) ^ (2 : Int).toNat = 65536 from rfl]; omega
    have E := hide e
    clear e
    go_enter Try.func36, Try.ntmps36
    go_wp2
    go_ret
    exact ⟨by rw [← E.out]; rfl, rfl⟩
  · have e : (n / 4294967296 == 0) = fitsW 4 n := by
      unfold fitsW; rw [Bool.eq_iff_iff, beq_iff_eq, decide_eq_true_iff, show (256 : Int) ^ (4 : Int).toNat = 4294967296 from rfl]; omega
    have E := hide e
    clear e
    go_enter Try.func36, Try.ntmps36
    go_wp2
    go_ret
    exact ⟨by rw [← E.out]; rfl, rfl⟩

theorem holds_yes (x n : Int) (w : World) (hx : isW x = true) (h : fitsW x n = true) : Calls Try.prog 36 #[.int .i64 x, .int .i64 n] w fun e w' => e = .returned (.bool true) ∧ w = w' :=
  (holds_any x n w hx).mono fun e w' ⟨he, hw⟩ => ⟨by rw [he, h], hw⟩
theorem holds_no (x n : Int) (w : World) (hx : isW x = true) (h : fitsW x n = false) : Calls Try.prog 36 #[.int .i64 x, .int .i64 n] w fun e w' => e = .returned (.bool false) ∧ w = w' :=
  (holds_any x n w hx).mono fun e w' ⟨he, hw⟩ => ⟨by rw [he, h], hw⟩

theorem new_ok (n : Int) (w : World) (h0 : 0 ≤ n) (h1 : n ≤ 65536) :
    Calls Try.prog 23 #[.int .i64 n] w fun e w' => 
      e = .returned (.pointer (some ⟨w.heap.size + 1, 0, none⟩)) ∧ w' = (w.alloc (.cells (madeCells #[.int .u8 0] n.toNat) 5)).alloc (.cells #[.slice (some ⟨w.heap.size, 0, none⟩) n.toNat n.toNat, .int .i64 0] 65) := by
  obtain ⟨n, rfl⟩ := Int.eq_ofNat_of_zero_le h0
  rw [Int.toNat_natCast]
  have hmk := run_make_row' (P := Try.prog) 27 5 (.int .u8 0) 1 (by kernel_rfl) (by kernel_rfl) rfl .i64 .i64 n (by omega) (by omega)
  go_enter Try.func23, Try.ntmps23
  go_wp2
  go_ret
  exact ⟨rfl, rfl⟩

theorem new_no (n : Int) (w : World) (h : n < 0 ∨ 65536 < n) :
    Calls Try.prog 23 #[.int .i64 n] w fun e w' => e = .returned (.pointer none) ∧ w = w' := by
  by_cases hn : n < 0
  · go_enter Try.func23, Try.ntmps23
    go_wp2
    go_ret
    exact ⟨rfl, rfl⟩
  · have h1 : 65536 < n := by omega
    clear h
    go_enter Try.func23, Try.ntmps23
    go_wp2
    go_ret
    exact ⟨rfl, rfl⟩
end Go.Proofs.Ytbghkfjjmgmjmaa.row
