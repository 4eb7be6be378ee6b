import Derived.Test.YtolbalafhfpjbaaGreatPBase
import Derived.StillTailTactics
namespace Go.Proofs.YtolbalafhfpjbaaGreat.base
open Go.RowKit mem
theorem within_any (n a b : Int) (w : World) :
  Calls Tryz.prog 74 #[.int .i64 n, .int .i64 a, .int .i64 b] w fun e w' => e = .returned (.bool (decide (a ≤ n) && decide (n ≤ b))) ∧ w = w' := by
 by_cases h : a ≤ n
 ·go_enter Tryz.func74, Tryz.ntmps74
  go_wp2
  go_ret
  exact ⟨by simp [h], rfl⟩
 ·go_enter Tryz.func74, Tryz.ntmps74
  go_wp2
  go_ret
  exact ⟨by rw [show decide (a ≤ n) = false from decide_eq_false (by omega)]; rfl, rfl⟩
theorem within_yes (n a b : Int) (w : World) (h : a ≤ n ∧ n ≤ b) :
  Calls Tryz.prog 74 #[.int .i64 n, .int .i64 a, .int .i64 b] w fun e w' => e = .returned (.bool true) ∧ w = w' :=
 (within_any n a b w).mono fun e w' ⟨he, hw⟩ => ⟨by rw [he]; simp [h.1, h.2], hw⟩
theorem within_no (n a b : Int) (w : World) (h : ¬ (a ≤ n ∧ n ≤ b)) :
  Calls Tryz.prog 74 #[.int .i64 n, .int .i64 a, .int .i64 b] w fun e w' => e = .returned (.bool false) ∧ w = w' :=
 (within_any n a b w).mono fun e w' ⟨he, hw⟩ => ⟨by rw [he]; congr 2; rw [← Bool.not_eq_true, Bool.and_eq_true, decide_eq_true_iff, decide_eq_true_iff]; exact h, hw⟩
theorem equal_any (A1 A2 : Option Addr) (c1 c2 : Nat) (xs ys : List UInt8) (w : World) (h1 : Vals w [] A1 (xs.map B)) (h2 : Vals w [] A2 (ys.map B)) (hm : xs.length ≤ 140737488355328) :
  Calls Tryz.prog 118 #[.slice A1 xs.length c1, .slice A2 ys.length c2] w fun e w' => e = .returned (.bool (decide (xs = ys))) ∧ ∃ k, w' = w.drewN k := by
 have H1 := hide h1
 have H2 := hide h2
 clear h1 h2
 by_cases hl : xs.length = ys.length
 ·have hl1 : ((xs.length : Int) != (ys.length : Int)) = false := by rw [bne_eq_false_iff_eq]; omega
  have HL := hide hl
  clear hl
  go_enter Tryz.func118, Tryz.ntmps118
  go_wp2
  go_loopw [5] (fun i wr => ∃ j : Nat, j ≤ xs.length ∧ i = .int .i64 j ∧ Hid (xs.take j = ys.take j) ∧ ∃ d, wr = w.drewN d) (fun i wr => xs.length - (intOf i).toNat)
  case atStart => exact ⟨0, Nat.zero_le _, rfl, hide rfl, 0, rfl⟩
  case round =>
   obtain ⟨j, hj, rfl, heq, d, rfl⟩ := hrel
   by_cases hlt : j < xs.length
   ·have hlt2 : j < ys.length := by have := HL.out; omega
    obtain ⟨ad1, rfl, _, hx⟩ := H1.out j (B xs[j]) (by simp [hlt])
    obtain ⟨ad2, rfl, _, hy⟩ := H2.out j (B ys[j]) (by simp [hlt2])
    have hn1 := hide (List.take_succ_eq_append_getElem hlt)
    have hn2 := hide (List.take_succ_eq_append_getElem hlt2)
    have hat1 := hide (List.getElem?_eq_getElem hlt)
    have hat2 := hide (List.getElem?_eq_getElem hlt2)
    unfold B at hx hy
    generalize xs[j] = x at *
    generalize ys[j] = y at *
    by_cases hxy : x = y
    ·subst hxy
     have ht : ((x.toNat : Int) != (x.toNat : Int)) = false := by simp
     go_wp2
     go_quiet (fail)
     go_wp2
     go_roundw
     case rel => exact ⟨j + 1, by omega, by go_num, hide (by rw [hn1.out, hn2.out, heq.out]), _, rfl⟩
     case measure => simp [intOf]; omega
    ·have ht : ((x.toNat : Int) != (y.toNat : Int)) = true := by rw [bne_iff_ne]; exact fun e => hxy (UInt8.toNat_inj.1 (by omega))
     have HNEQ : Hid (decide (xs = ys) = false) := hide (decide_eq_false (fun e => hxy (by
      have a := hat1.out
      have b := hat2.out
      rw [e, b] at a
      injection a with a
      exact a.symm)))
     clear hxy
     go_wp2
     go_quiet (fail)
     go_wp2
     go_ret
     exact ⟨by rw [HNEQ.out]; rfl, _, World.drewN_drewN _ _ _⟩
   ·obtain rfl : j = xs.length := by omega
    have HE : Hid (decide (xs = ys) = true) := hide (decide_eq_true (by
     have := heq.out
     rw [List.take_length, List.take_of_length_le (by have := HL.out; omega)] at this
     exact this))
    go_wp2
    go_ret
    exact ⟨by rw [HE.out]; rfl, _, rfl⟩
 ·have hl1 : ((xs.length : Int) != (ys.length : Int)) = true := by rw [bne_iff_ne]; omega
  have HE : Hid (decide (xs = ys) = false) := hide (decide_eq_false (fun e => hl (by rw [e])))
  clear hl
  go_enter Tryz.func118, Tryz.ntmps118
  go_wp2
  go_ret
  exact ⟨by rw [HE.out]; rfl, 0, rfl⟩

theorem bytes_any (A1 A2 : Option Addr) (n1 n2 c1 c2 : Nat) (xs ys : List UInt8) (w : World) (hn1 : xs.length = n1) (hn2 : ys.length = n2) (h1 : Vals w [] A1 (xs.map B)) (h2 : Vals w [] A2 (ys.map B)) (hm : n1 ≤ 140737488355328) :
  Calls Tryz.prog 48 #[.slice A1 n1 c1, .slice A2 n2 c2] w fun e w' => e = .returned (.bool (decide (xs = ys))) ∧ ∃ k, w' = w.drewN k := by
 subst hn1 hn2
 have H1 := hide h1
 have H2 := hide h2
 clear h1 h2
 go_enter Tryz.func48, Tryz.ntmps48
 go_wp2_with fail
 refine (equal_any A1 A2 c1 c2 xs ys _ H1.out H2.out hm).mono ?_
 rintro e w' ⟨rfl, k, rfl⟩
 go_wp2
 go_ret
 exact ⟨rfl, _, rfl⟩
def fillOf (x : Int) : List UInt8 := (List.range 64).map fun k => UInt8.ofNat (((x % 256).toNat + k) % 256)
theorem fillOf_length (x : Int) : (fillOf x).length = 64 := by simp [fillOf]
theorem fillOf_get (x : Int) (k : Nat) (h : k < 64) : (fillOf x)[k]? = some (UInt8.ofNat (((x % 256).toNat + k) % 256)) := by simp [fillOf, h]
def fillK (x : Int) (k : Nat) : List UInt8 := (fillOf x).take k ++ List.replicate (64 - k) 0
theorem fillK_succ (x : Int) (k : Nat) (h : k < 64) : (fillK x k).set k (UInt8.ofNat (((x % 256).toNat + k) % 256)) = fillK x (k + 1) := by
 have h1 : ((fillOf x).take k).length = k := by rw [List.length_take, fillOf_length]; omega
 unfold fillK
 rw [List.set_append, h1, if_neg (by omega), Nat.sub_self, show 64 - k = (64 - (k + 1)) + 1 by omega, List.replicate_succ, List.set_cons_zero, List.take_add_one, fillOf_get x k h]
 simp

set_option maxRecDepth 100000 in
set_option maxHeartbeats 1000000 in
theorem fill_any (x : Int) (w : World) :
  Calls Tryz.prog 65 #[.int .i64 x] w fun e w' => ∃ g, e = .returned (.slice (some ⟨g, 0, none⟩) 64 64) ∧ w.heap.size ≤ g ∧ Arr w' g 64 (fillOf x) ∧ Kept [] w w' := by
 have hmk : ∀ w : World, (Instr.makeSlice 41 (.int .i64 64) (.int .i64 64)).run Tryz.prog w = .ok (.slice (some ⟨w.heap.size, 0, none⟩) 64 64) (w.alloc (.cells (madeCells #[.int .u8 0] 64) 5)) :=
  run_make_row' (P := Tryz.prog) 41 5 (.int .u8 0) 1 (by kernel_rfl) (by kernel_rfl) rfl .i64 .i64 64 (by omega) (by omega)
 have hmade : Hid (Arr (w.alloc (.cells (madeCells #[.int .u8 0] 64) 5)) w.heap.size 64 (fillK x 0)) := hide ⟨_, Blk.new _ _ _, by rw [size_madeCells], by simp [fillK], fun k y hy => by
  simp only [fillK, List.take_zero, List.nil_append, List.getElem?_replicate] at hy
  split at hy
  ·rename_i hk
   injection hy with hy
   subst hy
   exact made_B 64 k hk
  ·cases hy⟩
 have hk0 : Hid (Kept [] w (w.alloc (.cells (madeCells #[.int .u8 0] 64) 5))) := hide ((Kept.refl [] w).alloc _)
 obtain ⟨r, hr⟩ : ∃ r : Nat, x % 256 = r := ⟨(x % 256).toNat, by omega⟩
 have hr2 : r < 256 := by omega
 have HR := hide hr
 clear hr
 generalize hZ : madeCells #[Value.int .u8 0] 64 = Z at *
 clear hZ
 go_enter Tryz.func65, Tryz.ntmps65
 go_wp2
 go_loopw [4] (fun i wr => ∃ k : Nat, k ≤ 64 ∧ i = .int .i64 k ∧ Hid (Arr wr w.heap.size 64 (fillK x k)) ∧ Hid (Kept [] w wr)) (fun i wr => 64 - (intOf i).toNat)
 case atStart => exact ⟨0, by omega, rfl, hmade, hk0⟩
 case round =>
  obtain ⟨k, hk, rfl, HA, HK⟩ := hrel
  by_cases hlt : k < 64
  ·obtain ⟨v0, hv0⟩ := HA.out.any (i := k) hlt
   have hvf := HA.out.frozen k
   have g1 : (0 : Int) ≤ k := by omega
   go_wp2_with fail
   refine (round_any x 256 _ (by omega) (by omega)).mono ?_
   rintro e w1 ⟨rfl, rfl⟩
   rw [HR.out]
   go_wp2_with fail
   refine (round_any ((r : Int) + k) 256 _ (by omega) (by omega)).mono ?_
   rintro e w1 ⟨rfl, rfl⟩
   have hb : Value.int .u8 (((r : Int) + k) % 256) = B (UInt8.ofNat (((x % 256).toNat + k) % 256)) := by
    rw [HR.out]
    simp only [B, Int.toNat_natCast, UInt8.toNat_ofNat']
    congr 1
    omega
   have HB := hide hb
   clear hb
   have hw : IntKind.u8.wrap (((r : Int) + k) % 256) = ((r : Int) + k) % 256 := by
    have h1 := Int.emod_nonneg ((r : Int) + k) (show (256 : Int) ≠ 0 by omega)
    have h2 := Int.emod_lt_of_pos ((r : Int) + k) (show (0 : Int) < 256 by omega)
    exact IntWalk.u8_in _ ⟨h1, by omega⟩
   go_wp2
   go_roundw
   case rel =>
    rw [HB.out]
    refine ⟨k + 1, by omega, by go_num, hide ?_, hide (HK.out.set_ (.inr (Nat.le_refl _)) _ _)⟩
    rw [← fillK_succ x k hlt]
    exact HA.out.set_ _
   case measure => simp [intOf]; omega
  ·obtain rfl : k = 64 := by omega
   have HA2 : Hid (Arr wr w.heap.size 64 (fillOf x)) := hide (by
    have := HA.out
    unfold fillK at this
    rw [List.take_of_length_le (by rw [fillOf_length]; exact Nat.le_refl _)] at this
    simpa using this)
   go_wp2
   go_ret
   exact ⟨_, rfl, Nat.le_refl _, HA2.out, HK.out⟩
end Go.Proofs.YtolbalafhfpjbaaGreat.base
