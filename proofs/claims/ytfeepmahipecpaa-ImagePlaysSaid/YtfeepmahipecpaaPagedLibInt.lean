/- The library: slices.Repeat of one value. -/
import Derived.Test.YtfeepmahipecpaaPagedMul
namespace Go.Proofs.Ytfeepmahipecpaa.pd
set_option linter.unusedSimpArgs false
open Go.RowKit Go.Proofs.Ytfeepmahipecpaa.mem Go.Proofs.Ytfeepmahipecpaa.base

theorem made_int (n : Nat) (hn : n ≤ 65536) (w : World) :
    (Instr.makeSlice 29 (.int .i64 (n : Int)) (.int .i64 (n : Int))).run Try.prog w = .ok (.slice (some ⟨w.heap.size, 0, none⟩) n n) (w.alloc (.cells (List.replicate n (Value.int .i64 0)).toArray 3)) := by
  rw [← toList_madeCells_one]
  exact run_make_row' (P := Try.prog) 29 3 (Value.int .i64 0) 8 (by kernel_rfl) (by kernel_rfl) rfl .i64 .i64 n (by omega) (by omega) w

/-- The first j are laid. -/
def rep_int (n j : Nat) (v : Value) : List Value := List.replicate j v ++ List.replicate (n - j) (Value.int .i64 0)
theorem rep_int_length (n j : Nat) (v : Value) (_h : j ≤ n) : (rep_int n j v).length = n := by simp [rep_int]; omega
theorem rep_int_lay (n j m : Nat) (v : Value) (_h : j + m ≤ n) : lay (rep_int n j v) j (List.replicate m v) = rep_int n (j + m) v := by
  unfold lay rep_int
  rw [List.take_left' (by simp), List.length_replicate, ← List.drop_drop, List.drop_left' (by simp), List.drop_replicate, ← List.append_assoc, List.replicate_append_replicate, Nat.sub_sub]

theorem size_int : (Try.prog.info? 3).map (·.size) = some 1 := by kernel_rfl

set_option maxRecDepth 100000 in
set_option maxHeartbeats 1000000 in
theorem repeat_int (A : Option Addr) (c n : Nat) (v : Value) (w : World) (hn1 : 1 ≤ n) (hn : n ≤ 65536) (hv : Vals w [] A [v]) (h1 : v.oneCell' = true) :
    Calls Try.prog 62 #[.slice A 1 c, .int .i64 n] w fun e w' => ∃ g, e = .returned (.slice (some ⟨g, 0, none⟩) n n) ∧ w.heap.size ≤ g ∧ Blk w' g 3 (List.replicate n v).toArray ∧ Kept [] w w' := by
  have HV := hide hv
  have H1 := hide h1
  clear hv h1
  have hmk : ∀ w : World, (Instr.makeSlice 29 (.int .i64 n) (.int .i64 n)).run Try.prog w = .ok (.slice (some ⟨w.heap.size, 0, none⟩) n n) (w.alloc (.cells (rep_int n 0 v).toArray 3)) := fun w => by rw [made_int n hn w]; simp [rep_int]
  have w1 : IntKind.u64.wrap (n : Int) = n := by rw [IntKind.wrap_u64]; omega
  have w2 : IntKind.i64.wrap (n : Int) = n := by rw [IntKind.wrap_i64]; omega
  have HB0 : ∀ W : World, Hid (Blk (W.alloc (.cells (rep_int n 0 v).toArray 3)) W.heap.size 3 (rep_int n 0 v).toArray) := fun W => hide (Blk.new _ _ _)
  generalize hr : rep_int n 0 v = r at *
  have HR := hide hr
  clear hr
  go_enter Try.func62, Try.ntmps62
  go_wp2_with fail
  refine (mul_any n hn _).mono ?_
  rintro e w3 ⟨rfl, rfl⟩
  have HV3 := hide (HV.out.kept ((Kept.refl [] w3).alloc (.cells r.toArray 3)) (by simp))
  have HB3 := HB0 w3
  have HM : Hid ([v].length = Nat.min 1 n) := hide (Nat.min_eq_left hn1).symm
  have HL : Hid (0 + [v].length ≤ r.length) := hide (by rw [← HR.out, rep_int_length n 0 v (Nat.zero_le _)]; simpa using hn1)
  have HO : Hid (∀ u ∈ [v], u.oneCell' = true) := hide (by simpa using H1.out)
  have HK3 : Hid (Kept [] w3 (w3.alloc (.cells r.toArray 3))) := hide ((Kept.refl [] w3).alloc _)
  go_wp2_with (
    with_reducible refine wpList_copy_vals (o := ⟨some 33, _, _, _, _, _⟩) ?_ 3 (.tmp 31) (.tmp 32) 29 29 ?_ Try.underlying29 size_int w3.heap.size 0 n n 1 c A ?_ ?_ [v] HM.out [] HV3.out HO.out (by simp) r HB3.out HL.out ?_
    · rfl
    · rfl
    · rfl
    · rfl
    intro w4 hk4 hb4)
  rw [← HR.out, show [v] = List.replicate 1 v from rfl, rep_int_lay n 0 1 v (by omega)] at hb4
  have HB4 := hide hb4
  have HK4 : Hid (Kept [] w3 w4) := hide (HK3.out.trans hk4 (by simp))
  clear hb4 hk4
  go_wp2
  go_loopw [8] (fun i wr => ∃ j : Nat, 1 ≤ j ∧ j ≤ n ∧ i = .int .i64 j ∧ Hid (Blk wr w3.heap.size 3 (rep_int n j v).toArray) ∧ Hid (Kept [] w3 wr)) (fun i wr => n - (intOf i).toNat)
  case atStart => exact ⟨1, by omega, hn1, rfl, by simpa using HB4, HK4⟩
  case round =>
    obtain ⟨j, hj1, hj, rfl, HB, HK⟩ := hrel
    by_cases hlt : j < n
    · have hne : ¬ n = j := by omega
      have hne' : ¬ (n - j = 0) := by omega
      obtain ⟨m, hm⟩ : ∃ m : Nat, m = Nat.min j (n - j) := ⟨_, rfl⟩
      have hm1 : 1 ≤ m := by rw [hm]; exact (Nat.le_min).2 ⟨hj1, by omega⟩
      have hm2 : j + m ≤ n := by have h1 : Nat.min j (n - j) ≤ n - j := Nat.min_le_right _ _; omega
      have HM : Hid ((List.replicate m v).length = Nat.min j (n - j)) := hide (by rw [List.length_replicate]; exact hm)
      have HS : Hid (Vals wr [] (some ⟨w3.heap.size, 0, none⟩) (List.replicate m v)) := hide (Vals.blk 0 HB.out (by simp) (fun i u hu => by
        have hi : i < m ∧ u = v := by
          rw [List.getElem?_replicate] at hu
          split at hu
          · exact ⟨by assumption, (by injection hu with hu; exact hu.symm)⟩
          · cases hu
        have h3 : m ≤ j := by rw [hm]; exact Nat.min_le_left _ _
        rw [Nat.zero_add, hi.2]
        simp only [rep_int, List.getElem?_toArray]
        rw [List.getElem?_append_left (by simp; omega), List.getElem?_replicate, if_pos (by omega)]))
      have HO2 : Hid (∀ u ∈ List.replicate m v, u.oneCell' = true) := hide (fun u hu => by rw [(List.mem_replicate.1 hu).2]; exact H1.out)
      have HP : Hid (0 < (List.replicate m v).length) := hide (by simp; omega)
      have HF : Hid (j + (List.replicate m v).length ≤ (rep_int n j v).length) := hide (by rw [rep_int_length n j v hj, List.length_replicate]; exact hm2)
      have HN : Hid (lay (rep_int n j v) j (List.replicate m v) = rep_int n (j + m) v) := hide (rep_int_lay n j m v hm2)
      have HMI : Hid (goInt (List.replicate m v).length = .int .i64 (m : Int)) := hide (by simp [goInt])
      have hw : IntKind.i64.wrap ((j : Int) + (m : Int)) = ((j + m : Nat) : Int) := by rw [IntKind.wrap_i64]; omega
      clear hm
      go_wp2
      go_region_law (first
        | (refine step_copy_vals rfl 3 (.tmp 41) (.tmp 44) 29 29 rfl Try.underlying29 size_int w3.heap.size j (n - j) (n - j) j n (some ⟨w3.heap.size, 0, none⟩) (by go_simp) (by go_simp) (List.replicate m v) HM.out [] HS.out HO2.out HP.out (rep_int n j v) HB.out HF.out ?_; intro w5 hk5 hb5; rw [HMI.out]))
      all_goals
        rw [HN.out] at hb5
        have HB5 := hide hb5
        have HK5 : Hid (Kept [] w3 w5) := hide ((HK.out.drew).trans hk5 (by simp))
        clear hb5 hk5
        go_simp
        go_wp2
        go_roundw
        case rel => exact ⟨j + m, by omega, hm2, by go_num, HB5, HK5⟩
        case measure => simp [intOf]; omega
    · obtain rfl : j = n := by omega
      have HR2 : Hid (rep_int j j v = List.replicate j v) := hide (by simp [rep_int])
      go_wp2
      go_ret
      refine ⟨_, rfl, Nat.le_refl _, ?_, HK.out⟩
      rw [← HR2.out]
      exact HB.out
end Go.Proofs.Ytfeepmahipecpaa.pd
