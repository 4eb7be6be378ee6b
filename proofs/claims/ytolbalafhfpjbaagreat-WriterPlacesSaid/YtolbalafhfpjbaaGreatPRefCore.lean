import Derived.Test.YtolbalafhfpjbaaGreatPRowCore
import Derived.StillTailTactics
import Derived.Test.YtolbalafhfpjbaaGreatPFar
namespace Go.Proofs.YtolbalafhfpjbaaGreat.ref
open Go.RowKit mem row
theorem own_slice {w : World} {base : Nat} {e : TypeId} {v : Value} {n : Nat} {xs : List Value} (h : w.ownsRow base e 1 v n xs) : ∃ A c, v = .slice A n c ∧ n ≤ c ∧ (A = none → c = 0) ∧ (∀ S : List Nat, (∀ i ∈ S, i < base ∨ w.heap.size ≤ i) → Vals w S A xs) ∧ (∀ g, v.ownBlock = some g → base ≤ g) := by
 rcases h.2 with ⟨rfl, rfl⟩ | ⟨g, cap, cur, rfl, hb, hh, hn, hm, hs, ht⟩
 ·have : xs = [] := List.eq_nil_of_length_eq_zero (by simpa using h.1)
  subst this
  exact ⟨none, 0, rfl, Nat.le_refl _, fun _ => rfl, fun S _ => Vals.nil _ _ _, by simp [Value.ownBlock]⟩
 ·refine ⟨_, _, rfl, hn, by simp, fun S hS => ?_, by simp [Value.ownBlock]; exact hb⟩
  have hlt : g < w.heap.size := Blk.lt (show Blk w g e cur from hh)
  refine Vals.blk 0 (show Blk w g e cur from hh) (fun hm => by have := hS _ hm; omega) (fun i v hv => ?_)
  have hi : i < n := by have := (List.getElem?_eq_some_iff.1 hv).1; have := h.1; omega
  rw [← ht, List.getElem?_take_of_lt (by omega)] at hv
  simpa using hv

theorem int_info : (Tryz.prog.info? 3).map (fun i => (i.zero, i.size, i.bytes)) = some (some (.int .i64 0), 1, 8) := by kernel_rfl

theorem mod_any (x n : Int) (w : World) (hn : 0 < n) (hn2 : n ≤ 4611686018427387904) :
  Calls Tryz.prog 70 #[.int .i64 x, .int .i64 n] w fun e w' => e = .returned (.int .i64 (x % n)) ∧ w = w' := by
 have hne : (n == 0) = false := beq_eq_false_iff_ne.2 (by omega)
 have h1 := Int.tmod_lt_of_pos x hn
 have h2 := Int.lt_tmod_of_pos x hn
 have h3 : Hid (x % n = if x.tmod n < 0 then x.tmod n + n else x.tmod n) := by
  unfold Hid
  have h4 : x = n * x.tdiv n + x.tmod n := (Int.mul_tdiv_add_tmod x n).symm
  have h5 : x % n = x.tmod n % n := by
   conv => lhs; rw [h4]
   rw [Int.mul_add_emod_self_left]
  split
  ·rw [h5, ← Int.add_emod_right, Int.emod_eq_of_lt (by omega) (by omega)]
  ·rw [h5, Int.emod_eq_of_lt (by omega) (by omega)]
 by_cases hk : x.tmod n < 0
 ·have HK := hide (show (n + x.tmod n = x % n) by rw [h3.out, if_pos hk]; omega)
  have HK2 := hide (show (x.tmod n + n = x % n) by rw [h3.out, if_pos hk])
  clear h3
  go_enter Tryz.func70, Tryz.ntmps70
  go_wp2
  go_ret
  exact ⟨congrArg (fun q => Ending.returned (.int .i64 q)) HK2.out, rfl⟩
 ·have HK2 := hide (show (x.tmod n = x % n) by rw [h3.out, if_neg hk])
  have hk' : 0 ≤ x.tmod n := by omega
  clear h3
  go_enter Tryz.func70, Tryz.ntmps70
  go_wp2
  go_ret
  exact ⟨congrArg (fun q => Ending.returned (.int .i64 q)) HK2.out, rfl⟩

theorem round_any (x n : Int) (w : World) (hn : 0 < n) (hn2 : n ≤ 4611686018427387904) :
  Calls Tryz.prog 13 #[.int .i64 x, .int .i64 n] w fun e w' => e = .returned (.int .i64 (x % n)) ∧ w = w' := by
 have H1 := hide hn
 have H2 := hide hn2
 clear hn hn2
 go_enter Tryz.func13, Tryz.ntmps13
 go_wp2_with fail
 refine (mod_any x n _ H1.out H2.out).mono ?_
 rintro e w' ⟨rfl, rfl⟩
 go_wp2
 go_ret
 exact ⟨rfl, rfl⟩

end Go.Proofs.YtolbalafhfpjbaaGreat.ref
namespace Go.Proofs.YtolbalafhfpjbaaGreat.ref
open Go.RowKit mem row
theorem within_any (n a b : Int) (w : World) :
  Calls Tryz.prog 74 #[.int .i64 n, .int .i64 a, .int .i64 b] w fun e w' => e = .returned (.bool (decide (a ≤ n) && decide (n ≤ b))) ∧ w = w' := by
 by_cases h : a ≤ n
 ·go_enter Tryz.func74, Tryz.ntmps74
  go_wp2
  go_ret
  exact ⟨by simp [h], rfl⟩
 ·go_enter Tryz.func74, Tryz.ntmps74
  go_wp2
  go_ret
  exact ⟨by rw [show decide (a ≤ n) = false from decide_eq_false (by omega)]; rfl, rfl⟩
theorem within_yes (n a b : Int) (w : World) (h : a ≤ n ∧ n ≤ b) :
  Calls Tryz.prog 74 #[.int .i64 n, .int .i64 a, .int .i64 b] w fun e w' => e = .returned (.bool true) ∧ w = w' :=
 (within_any n a b w).mono fun e w' ⟨he, hw⟩ => ⟨by rw [he]; simp [h.1, h.2], hw⟩
theorem within_no (n a b : Int) (w : World) (h : ¬ (a ≤ n ∧ n ≤ b)) :
  Calls Tryz.prog 74 #[.int .i64 n, .int .i64 a, .int .i64 b] w fun e w' => e = .returned (.bool false) ∧ w = w' :=
 (within_any n a b w).mono fun e w' ⟨he, hw⟩ => ⟨by rw [he]; congr 2; rw [← Bool.not_eq_true, Bool.and_eq_true, decide_eq_true_iff, decide_eq_true_iff]; exact h, hw⟩

end Go.Proofs.YtolbalafhfpjbaaGreat.ref
namespace Go.Proofs.YtolbalafhfpjbaaGreat.ref
open Go.RowKit mem row
set_option maxRecDepth 100000
def RefAt (w : World) (p b : Nat) (R : Row) : Prop :=
 Blk w p 227 #[.slice (some ⟨b, 0, none⟩) R.bs.length R.bs.length, .int .i64 R.pos] ∧ Arr w b R.bs.length R.bs ∧ R.pos ≤ R.bs.length ∧ R.bs.length ≤ 65536

section
variable {w w' : World} {p b : Nat} {R : Row}
theorem RefAt.kept {S : List Nat} (h : RefAt w p b R) (k : Kept S w w') (hp : p ∉ S) (hb : b ∉ S) : RefAt w' p b R := by
 obtain ⟨h1, h2, h3⟩ := h
 exact ⟨k.blk h1 hp, h2.kept k hb, h3⟩
theorem RefAt.drewN (h : RefAt w p b R) (k : Nat) : RefAt (w.drewN k) p b R := h
theorem RefAt.drew (h : RefAt w p b R) : RefAt w.drew p b R := h
theorem RefAt.c0 (h : RefAt w p b R) : w.cell? ⟨p, 0, none⟩ = some (.slice (some ⟨b, 0, none⟩) R.bs.length R.bs.length) := h.1.cell 0
theorem RefAt.c1 (h : RefAt w p b R) : w.cell? ⟨p, 1, none⟩ = some (.int .i64 R.pos) := h.1.cell 1
theorem RefAt.f1 (h : RefAt w p b R) : w.frozen? ⟨p, 1, none⟩ = false := h.1.frozen 1
theorem RefAt.pos_le (h : RefAt w p b R) : R.pos ≤ R.bs.length := h.2.2.1
theorem RefAt.len_le (h : RefAt w p b R) : R.bs.length ≤ 65536 := h.2.2.2
theorem RefAt.ne_ (h : RefAt w p b R) : b ≠ p := h.2.1.ne_ h.1 (by decide)
theorem RefAt.lt (h : RefAt w p b R) : p < w.heap.size := h.1.lt
theorem RefAt.vals {S : List Nat} (h : RefAt w p b R) (hb : b ∉ S) : Vals w S (some ⟨b, 0, none⟩) (R.bs.map B) := h.2.1.vals hb
theorem RefAt.step (h : RefAt w p b R) (hlt : R.pos < R.bs.length) (x : UInt8) (q : Int) (hq : q = ((R.pos + 1 : Nat) : Int)) :
  RefAt ((w.setCell ⟨b, R.pos, none⟩ (B x)).setCell ⟨p, 1, none⟩ (.int .i64 q)) p b ⟨R.bs.set R.pos x, R.pos + 1⟩ := by
 have hne := h.ne_
 subst hq
 obtain ⟨h1, h2, h3, h4⟩ := h
 refine ⟨?_, ?_, by simp; omega, by simpa using h4⟩
 ·simpa using (h1.far_ (Ne.symm hne) _ _).set_ 1 _
 ·simpa using (h2.set_ x).far_ hne _ _
theorem RefAt.moved (h : RefAt w p b R) (n : Nat) (hn : R.pos + n ≤ R.bs.length) (q : Int) (hq : q = ((R.pos + n : Nat) : Int)) : RefAt (w.setCell ⟨p, 1, none⟩ (.int .i64 q)) p b ⟨R.bs, R.pos + n⟩ := by
 have hne := h.ne_
 subst hq
 obtain ⟨h1, h2, h3, h4⟩ := h
 exact ⟨h1.set_ 1 _, h2.far_ hne _ _, hn, h4⟩
end
end Go.Proofs.YtolbalafhfpjbaaGreat.ref
namespace Go.Proofs.YtolbalafhfpjbaaGreat.ref
open Go.RowKit mem row
set_option maxRecDepth 100000
theorem rnew_ok (n : Int) (w : World) (h0 : 0 ≤ n) (h1 : n ≤ 65536) :
  Calls Tryz.prog 182 #[.int .i64 n] w fun e w' => ∃ p b, e = .returned (.pointer (some ⟨p, 0, none⟩)) ∧ w.heap.size ≤ p ∧ w.heap.size ≤ b ∧ RefAt w' p b ⟨List.replicate n.toNat 0, 0⟩ ∧ Kept [] w w' := by
 obtain ⟨n, rfl⟩ := Int.eq_ofNat_of_zero_le h0
 rw [Int.toNat_natCast]
 have hmk := run_make_row' (P := Tryz.prog) 41 5 (.int .u8 0) 1 (by kernel_rfl) (by kernel_rfl) rfl .i64 .i64 n (by omega) (by omega)
 go_enter Tryz.func182, Tryz.ntmps182
 go_wp2_with (go_at_call 74; refine (within_yes _ _ _ _ ⟨by omega, by omega⟩).mono ?_; rintro e w' ⟨rfl, rfl⟩)
 go_ret
 refine ⟨_, _, rfl, by omega, Nat.le_refl w.heap.size, ⟨?_, ⟨_, Blk.alloc (Blk.new _ _ _) _, by rw [size_madeCells]; simp, by simp, fun i x hx => ?_⟩, Nat.zero_le _, by simp; omega⟩, ((Kept.refl _ w).alloc _).alloc _⟩
 ·have := Blk.new (w.alloc (.cells (madeCells #[.int .u8 0] n) 5)) 227 #[.slice (some ⟨w.heap.size, 0, none⟩) n n, .int .i64 0]
  simpa using this
 ·rw [List.getElem?_replicate] at hx
  split at hx
  ·rename_i hi
   injection hx with hx
   subst hx
   exact made_B n i hi
  ·cases hx

end Go.Proofs.YtolbalafhfpjbaaGreat.ref
namespace Go.Proofs.YtolbalafhfpjbaaGreat.ref
open Go.RowKit mem row
set_option maxRecDepth 100000
end Go.Proofs.YtolbalafhfpjbaaGreat.ref
namespace Go.Proofs.YtolbalafhfpjbaaGreat.ref
open Go.RowKit mem row
set_option maxRecDepth 100000
theorem equal_any (A1 A2 : Option Addr) (c1 c2 : Nat) (xs ys : List UInt8) (w : World) (h1 : Vals w [] A1 (xs.map B)) (h2 : Vals w [] A2 (ys.map B)) (hm : xs.length ≤ 140737488355328) :
  Calls Tryz.prog 118 #[.slice A1 xs.length c1, .slice A2 ys.length c2] w fun e w' => e = .returned (.bool (decide (xs = ys))) ∧ ∃ k, w' = w.drewN k := by
 have H1 := hide h1
 have H2 := hide h2
 clear h1 h2
 by_cases hl : xs.length = ys.length
 ·have hl1 : ((xs.length : Int) != (ys.length : Int)) = false := by rw [bne_eq_false_iff_eq]; omega
  have HL := hide hl
  clear hl
  go_enter Tryz.func118, Tryz.ntmps118
  go_wp2
  go_loopw [5] (fun i wr => ∃ j : Nat, j ≤ xs.length ∧ i = .int .i64 j ∧ Hid (xs.take j = ys.take j) ∧ ∃ d, wr = w.drewN d) (fun i wr => xs.length - (intOf i).toNat)
  case atStart => exact ⟨0, Nat.zero_le _, rfl, hide rfl, 0, rfl⟩
  case round =>
   obtain ⟨j, hj, rfl, heq, d, rfl⟩ := hrel
   by_cases hlt : j < xs.length
   ·have hlt2 : j < ys.length := by have := HL.out; omega
    obtain ⟨ad1, rfl, _, hx⟩ := H1.out j (B xs[j]) (by simp [hlt])
    obtain ⟨ad2, rfl, _, hy⟩ := H2.out j (B ys[j]) (by simp [hlt2])
    have hn1 := hide (List.take_succ_eq_append_getElem hlt)
    have hn2 := hide (List.take_succ_eq_append_getElem hlt2)
    have hat1 := hide (List.getElem?_eq_getElem hlt)
    have hat2 := hide (List.getElem?_eq_getElem hlt2)
    unfold B at hx hy
    generalize xs[j] = x at *
    generalize ys[j] = y at *
    by_cases hxy : x = y
    ·subst hxy
     have ht : ((x.toNat : Int) != (x.toNat : Int)) = false := by simp
     go_wp2
     go_quiet (fail)
     go_wp2
     go_roundw
     case rel => exact ⟨j + 1, by omega, by go_num, hide (by rw [hn1.out, hn2.out, heq.out]), _, rfl⟩
     case measure => simp [intOf]; omega
    ·have ht : ((x.toNat : Int) != (y.toNat : Int)) = true := by rw [bne_iff_ne]; exact fun e => hxy (UInt8.toNat_inj.1 (by omega))
     have HNEQ : Hid (decide (xs = ys) = false) := hide (decide_eq_false (fun e => hxy (by
      have a := hat1.out
      have b := hat2.out
      rw [e, b] at a
      injection a with a
      exact a.symm)))
     clear hxy
     go_wp2
     go_quiet (fail)
     go_wp2
     go_ret
     exact ⟨by rw [HNEQ.out]; rfl, _, World.drewN_drewN _ _ _⟩
   ·obtain rfl : j = xs.length := by omega
    have HE : Hid (decide (xs = ys) = true) := hide (decide_eq_true (by
     have := heq.out
     rw [List.take_length, List.take_of_length_le (by have := HL.out; omega)] at this
     exact this))
    go_wp2
    go_ret
    exact ⟨by rw [HE.out]; rfl, _, rfl⟩
 ·have hl1 : ((xs.length : Int) != (ys.length : Int)) = true := by rw [bne_iff_ne]; omega
  have HE : Hid (decide (xs = ys) = false) := hide (decide_eq_false (fun e => hl (by rw [e])))
  clear hl
  go_enter Tryz.func118, Tryz.ntmps118
  go_wp2
  go_ret
  exact ⟨by rw [HE.out]; rfl, 0, rfl⟩

theorem bytes_any (A1 A2 : Option Addr) (n1 n2 c1 c2 : Nat) (xs ys : List UInt8) (w : World) (hn1 : xs.length = n1) (hn2 : ys.length = n2) (h1 : Vals w [] A1 (xs.map B)) (h2 : Vals w [] A2 (ys.map B)) (hm : n1 ≤ 140737488355328) :
  Calls Tryz.prog 48 #[.slice A1 n1 c1, .slice A2 n2 c2] w fun e w' => e = .returned (.bool (decide (xs = ys))) ∧ ∃ k, w' = w.drewN k := by
 subst hn1 hn2
 have H1 := hide h1
 have H2 := hide h2
 clear h1 h2
 go_enter Tryz.func48, Tryz.ntmps48
 go_wp2_with fail
 refine (equal_any A1 A2 c1 c2 xs ys _ H1.out H2.out hm).mono ?_
 rintro e w' ⟨rfl, k, rfl⟩
 go_wp2
 go_ret
 exact ⟨rfl, _, rfl⟩
end Go.Proofs.YtolbalafhfpjbaaGreat.ref
namespace Go.Proofs.YtolbalafhfpjbaaGreat.ref
open Go.RowKit mem row
set_option maxRecDepth 100000
end Go.Proofs.YtolbalafhfpjbaaGreat.ref
