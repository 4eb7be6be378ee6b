import Derived.Test.YtbghkfjjmgmjmaaRef
namespace Go.Proofs.Ytbghkfjjmgmjmaa.ref
open Go.RowKit Go.Proofs.Ytbghkfjjmgmjmaa.mem Go.Proofs.Ytbghkfjjmgmjmaa.row

theorem within_any (n a b : Int) (w : World) :
    Calls Try.prog 22 #[.int .i64 n, .int .i64 a, .int .i64 b] w fun e w' => e = .returned (.bool (decide (a ≤ n) && decide (n ≤ b))) ∧ w = w' := by
  by_cases h : a ≤ n
  · go_enter Try.func22, Try.ntmps22
    go_wp2
    go_ret
    exact ⟨by simp [h], rfl⟩
  · go_enter Try.func22, Try.ntmps22
    go_wp2
    go_ret
    exact ⟨by rw [show decide (a ≤ n) = false from decide_eq_false (by omega)]; rfl, rfl⟩
theorem within_yes (n a b : Int) (w : World) (h : a ≤ n ∧ n ≤ b) :
    Calls Try.prog 22 #[.int .i64 n, .int .i64 a, .int .i64 b] w fun e w' => e = .returned (.bool true) ∧ w = w' :=
  (within_any n a b w).mono fun e w' ⟨he, hw⟩ => ⟨by rw [he]; simp [h.1, h.2], hw⟩
theorem within_no (n a b : Int) (w : World) (h : ¬ (a ≤ n ∧ n ≤ b)) :
    Calls Try.prog 22 #[.int .i64 n, .int .i64 a, .int .i64 b] w fun e w' => e = .returned (.bool false) ∧ w = w' :=
  (within_any n a b w).mono fun e w' ⟨he, hw⟩ => ⟨by rw [he]; congr 2; rw [← Bool.not_eq_true, Bool.and_eq_true, decide_eq_true_iff, decide_eq_true_iff]; exact h, hw⟩

/-- The greatest number of so many bytes, -1 of no width. -/
def mostOf (x : Int) : Int := if x = 1 then 255 else if x = 2 then 65535 else if x = 4 then 4294967295 else -1

theorem most_any (x : Int) (w : World) :
    Calls Try.prog 39 #[.int .i64 x] w fun e w' => e = .returned (.int .i64 (mostOf x)) ∧ w = w' := by
  by_cases h1 : x = 1
  · subst h1; go_enter Try.func39, Try.ntmps39; go_wp2; go_ret; exact ⟨rfl, rfl⟩
  by_cases h2 : x = 2
  · subst h2; go_enter Try.func39, Try.ntmps39; go_wp2; go_ret; exact ⟨rfl, rfl⟩
  by_cases h4 : x = 4
  · subst h4; go_enter Try.func39, Try.ntmps39; go_wp2; go_ret; exact ⟨rfl, rfl⟩
  · have e : Hid (mostOf x = -1) := hide (by simp [mostOf, h1, h2, h4])
    have e1 : (x == 1) = false := beq_eq_false_iff_ne.2 h1
    have e2 : (x == 2) = false := beq_eq_false_iff_ne.2 h2
    have e4 : (x == 4) = false := beq_eq_false_iff_ne.2 h4
    go_enter Try.func39, Try.ntmps39
    go_wp2
    go_ret
    exact ⟨by rw [e.out]; rfl, rfl⟩

theorem cut_le (m i : Nat) (bs : List UInt8) : 0 + ((bs.drop i).take m).length ≤ (List.replicate m (0 : UInt8)).length := by simp; omega
theorem size8 : (Try.prog.info? 5).map (·.size) = some 1 := by kernel_rfl

/-- Part: bytes in new memory. -/
theorem part_any (P : Option Addr) (n c : Nat) (i j : Int) (bs : List UInt8) (w : World) (hv : Vals w [] P (bs.map B)) (hl : bs.length = n) (hnc : n ≤ c) (hi : 0 ≤ i) (hij : i ≤ j) (hj : j ≤ n) (hn : n ≤ 140737488355328) :
    Calls Try.prog 41 #[.slice P n c, .int .i64 i, .int .i64 j] w fun e w' =>
      ∃ g, e = .returned (.slice (some ⟨g, 0, none⟩) (j - i).toNat (j - i).toNat) ∧ w.heap.size ≤ g ∧ Arr w' g (j - i).toNat ((bs.drop i.toNat).take (j - i).toNat) ∧ Kept [] w w' := by
  obtain ⟨i, rfl⟩ := Int.eq_ofNat_of_zero_le hi
  obtain ⟨m, hm⟩ : ∃ m : Nat, j = i + m := ⟨(j - i).toNat, by omega⟩
  subst hm
  rw [show ((i : Int) + m - i).toNat = m by omega, Int.toNat_natCast]
  have HV := hide hv
  have HL := hide hl
  clear hv hl
  have hmk := run_make_row' (P := Try.prog) 27 5 (.int .u8 0) 1 (by kernel_rfl) (by kernel_rfl) rfl .i64 .i64 m (by omega) (by omega)
  have hs : ((i : Int) + m - i) = m := by omega
  have hmade : Arr (w.alloc (.cells (madeCells #[.int .u8 0] m) 5)) w.heap.size m (List.replicate m 0) :=
    ⟨_, Blk.new _ _ _, by rw [size_madeCells], by simp, fun k x hx => by
      rw [List.getElem?_replicate] at hx
      split at hx
      · rename_i hk
        injection hx with hx
        subst hx
        exact made_B m k hk
      · cases hx⟩
  have HM := hide hmade
  have HV1 : Hid (Vals (w.alloc (.cells (madeCells #[.int .u8 0] m) 5)) [] P (bs.map B)) := hide (HV.out.kept ((Kept.refl [] w).alloc _) (by simp))
  have hxl : Hid (((bs.drop i).take m).length = m) := hide (by have := HL.out; simp; omega)
  clear hmade HV
  have HC : Hid (Vals (w.alloc (.cells (madeCells #[.int .u8 0] m) 5)) [] (P.map (fun x => x.add i)) (((bs.drop i).take m).map B)) := hide (by have := HV1.out.cut i m; simpa using this)
  have HN : Hid (((bs.drop i).take m).length = Nat.min m m) := hide (by rw [hxl.out]; exact (Nat.min_self m).symm)
  by_cases hc : c = i
  · have H0 : Hid (((bs.drop i).take m) = []) := hide (List.eq_nil_of_length_eq_zero (by rw [hxl.out]; omega))
    have HV0 : Hid (Vals (w.alloc (.cells (madeCells #[.int .u8 0] m) 5)) [] P (((bs.drop i).take m).map B)) := hide (by rw [H0.out]; exact Vals.nil _ _ _)
    go_enter Try.func41, Try.ntmps41
    go_wp2_with (
      with_reducible refine wpList_copy_bytes (o := ⟨some 17, _, _, _, _, _⟩) ?_ (.tmp 12) (.tmp 16) 27 27 ?_ Try.underlying27 size8 (some ⟨w.heap.size, 0, none⟩) P m m m 0 ?_ ?_ ((bs.drop i).take m) HN.out [] HV0.out w.heap.size 0 m (List.replicate m 0) (fun _ => ⟨rfl, HM.out, cut_le m i bs⟩) ?_
      · rfl
      · rfl
      · rfl
      · exact congrArg (fun q => Value.slice P q 0) (Nat.add_sub_cancel_left (n := i) (m := m))
      intro w2 hk2 ha2 hn2)
    go_ret
    refine ⟨_, rfl, Nat.le_refl _, ?_, ?_⟩
    · have := ha2 HM.out
      rw [over_all _ _ (by rw [hxl.out]; simp)] at this
      exact this
    · exact ((Kept.refl [] w).alloc _).trans hk2 (by simp)
  · go_enter Try.func41, Try.ntmps41
    go_wp2_with (
      with_reducible refine wpList_copy_bytes (o := ⟨some 17, _, _, _, _, _⟩) ?_ (.tmp 12) (.tmp 16) 27 27 ?_ Try.underlying27 size8 (some ⟨w.heap.size, 0, none⟩) (P.map (fun x => x.add i)) m m m (c - i) ?_ ?_ ((bs.drop i).take m) HN.out [] HC.out w.heap.size 0 m (List.replicate m 0) (fun _ => ⟨rfl, HM.out, cut_le m i bs⟩) ?_
      · rfl
      · rfl
      · rfl
      · exact congrArg (fun q => Value.slice (P.map (fun x => x.add i)) q (c - i)) (Nat.add_sub_cancel_left (n := i) (m := m))
      intro w2 hk2 ha2 hn2)
    go_ret
    refine ⟨_, rfl, Nat.le_refl _, ?_, ?_⟩
    · have := ha2 HM.out
      rw [over_all _ _ (by rw [hxl.out]; simp)] at this
      exact this
    · exact ((Kept.refl [] w).alloc _).trans hk2 (by simp)
end Go.Proofs.Ytbghkfjjmgmjmaa.ref
