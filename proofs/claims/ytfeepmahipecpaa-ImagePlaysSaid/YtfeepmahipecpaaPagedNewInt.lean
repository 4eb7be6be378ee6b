/- Package paged: Clean, New; nil. -/
import Derived.Test.YtfeepmahipecpaaPagedOpsInt
import Derived.Test.YtfeepmahipecpaaPagedLibInt
import Derived.Test.YtfeepmahipecpaaPagedSmall
namespace Go.Proofs.Ytfeepmahipecpaa.pd
set_option linter.unusedSimpArgs false
open Go.RowKit Go.Proofs.Ytfeepmahipecpaa.mem Go.Proofs.Ytfeepmahipecpaa.base

theorem len_int_nil (w : World) :
    Calls Try.prog 37 #[.pointer none] w fun e w' => e = .returned (.int .i64 0) ∧ w = w' := by
  go_enter Try.func37, Try.ntmps37
  go_wp2
  go_ret
  exact ⟨rfl, rfl⟩

theorem pages_int_nil (w : World) :
    Calls Try.prog 78 #[.pointer none] w fun e w' => e = .returned (.int .i64 0) ∧ w = w' := by
  go_enter Try.func78, Try.ntmps78
  go_wp2
  go_ret
  exact ⟨rfl, rfl⟩

section
variable {w : World} {p V D per : Nat} {vs : List Value} {ds : List Bool}

theorem clean_int (h : Pint w p V D per vs ds) :
    Calls Try.prog 47 #[.pointer (some ⟨p, 0, none⟩)] w fun e w' => e = .returned (.tuple #[]) ∧ Pint w' p V D per vs (List.replicate ds.length false) ∧ Kept [D] w w' := by
  obtain ⟨w2, hrun, hb, hk⟩ := clear_marks w D ds h.m1 h.marks
  have c2 := h.c2
  have HP : Hid (Pint w2 p V D per vs (List.replicate ds.length false)) := hide { h with cells := by rw [List.length_replicate]; exact hk.blk h.cells (by simpa using h.pD), vals := hk.blk h.vals (by simpa using h.VD), marks := hb, pages := by rw [List.length_replicate]; exact h.pages }
  have HK := hide hk
  clear h hk hb
  go_enter Try.func47, Try.ntmps47
  go_wp2
  go_end0
  exact ⟨rfl, HP.out, HK.out⟩
end

theorem new_int_no (n per : Int) (v : Value) (w : World) (h : ¬ ((1 ≤ n ∧ n ≤ 65536) ∧ (1 ≤ per ∧ per ≤ 65536))) :
    Calls Try.prog 33 #[.int .i64 n, .int .i64 per, v] w fun e w' => e = .returned (.pointer none) ∧ w = w' := by
  by_cases hn : 1 ≤ n ∧ n ≤ 65536
  · have hp : ¬ (1 ≤ per ∧ per ≤ 65536) := fun hp => h ⟨hn, hp⟩
    have HN := hide hn
    have HP := hide hp
    clear h hn hp
    go_enter Try.func33, Try.ntmps33
    go_wp2_with fail
    refine (isSize_yes n _ HN.out.1 HN.out.2).mono ?_
    rintro e w' ⟨rfl, rfl⟩
    go_wp2_with fail
    refine (isSize_no per _ HP.out).mono ?_
    rintro e w' ⟨rfl, rfl⟩
    go_wp2
    go_ret
    exact ⟨rfl, rfl⟩
  · have HN := hide hn
    clear h hn
    go_enter Try.func33, Try.ntmps33
    go_wp2_with fail
    refine (isSize_no n _ HN.out).mono ?_
    rintro e w' ⟨rfl, rfl⟩
    go_wp2
    go_ret
    exact ⟨rfl, rfl⟩

set_option maxRecDepth 100000 in
theorem new_int_yes (n per : Nat) (v : Int) (w : World) (hn1 : 1 ≤ n) (hn2 : n ≤ 65536) (hp1 : 1 ≤ per) (hp2 : per ≤ 65536) (m : Nat) (hm : m = (n + per - 1) / per) :
    Calls Try.prog 33 #[.int .i64 n, .int .i64 per, .int .i64 v] w fun e w' => ∃ p V D, e = .returned (.pointer (some ⟨p, 0, none⟩)) ∧ w.heap.size ≤ p ∧ w.heap.size ≤ V ∧ w.heap.size ≤ D ∧
      Pint w' p V D per (List.replicate n (.int .i64 v)) (List.replicate m false) ∧ Kept [] w w' := by
  have HM := hide hm
  have hm2 : m ≤ 200000 := by rw [hm]; exact Nat.le_trans (Nat.div_le_self _ _) (by omega)
  clear hm
  have hmk : ∀ W : World, (Instr.makeSlice 46 (.int .i64 m) (.int .i64 m)).run Try.prog W = .ok (.slice (some ⟨W.heap.size, 0, none⟩) m m) (W.alloc (.cells (bv (List.replicate m false)).toArray 4)) := fun W => made_marks m hm2 W
  go_enter Try.func33, Try.ntmps33
  go_wp2_with fail
  refine (isSize_yes n _ (by omega) (by omega)).mono ?_
  rintro e w' ⟨rfl, rfl⟩
  go_wp2_with fail
  refine (isSize_yes per _ (by omega) (by omega)).mono ?_
  rintro e w' ⟨rfl, rfl⟩
  go_wp2_with fail
  have HV : Hid (Vals (w.alloc (.cells #[.int .i64 v] 3)) [] (some ⟨w.heap.size, 0, none⟩) [.int .i64 v]) := hide (Vals.blk 0 (Blk.new w _ _) (by simp) (fun i u hu => by simpa using hu))
  refine (repeat_int _ 1 n (.int .i64 v) _ hn1 hn2 HV.out rfl).mono ?_
  rintro e w1 ⟨V, rfl, hV, hb, hk⟩
  have HV1 := hide hV
  have HB := hide hb
  have HK : Hid (Kept [] w w1) := hide (((Kept.refl [] w).alloc _).trans hk (by simp))
  clear hV hb hk HV
  go_wp2_with fail
  refine (upwards_any n per _ hn1 hn2 hp1 hp2).mono ?_
  rintro e w2 ⟨rfl, rfl⟩
  rw [← HM.out]
  have HD : Hid (Blk (w1.alloc (.cells (bv (List.replicate m false)).toArray 4)) w1.heap.size 4 (bv (List.replicate m false)).toArray) := hide (Blk.new _ _ _)
  have HK2 : Hid (Kept [] w1 (w1.alloc (.cells (bv (List.replicate m false)).toArray 4))) := hide ((Kept.refl [] w1).alloc _)
  obtain ⟨w3, hw3⟩ : ∃ w3, w1.alloc (.cells (bv (List.replicate m false)).toArray 4) = w3 := ⟨_, rfl⟩
  rw [hw3] at HD HK2
  have hs3 : w3.heap.size = w1.heap.size + 1 := by rw [← hw3]; simp
  have HS3 := hide hs3
  clear hs3
  have hV1 : w.heap.size + 1 ≤ V := by have := HV1.out; simpa using this
  have hVl := HB.out.lt
  have hs := HK.out.size
  go_wp2
  go_ret
  have h3 := HS3.out
  have hb : Blk w3 V 3 (List.replicate n (.int .i64 v : Value)).toArray := HK2.out.blk HB.out (by simp)
  refine ⟨w3.heap.size, V, w1.heap.size, rfl, by omega, by omega, hs, ⟨?_, hb.alloc _, HD.out.alloc _, by omega, by omega, by omega, by simpa using hn1, by simpa using hn2, hp1, hp2, by simpa using HM.out⟩, (HK.out.trans HK2.out (by simp)).alloc _⟩
  have hc := Blk.new w3 86 #[.slice (some ⟨V, 0, none⟩) n n, .int .i64 per, .slice (some ⟨w1.heap.size, 0, none⟩) m m]
  simpa using hc
end Go.Proofs.Ytfeepmahipecpaa.pd
