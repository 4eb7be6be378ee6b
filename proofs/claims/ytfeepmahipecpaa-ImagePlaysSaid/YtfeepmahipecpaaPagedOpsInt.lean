/- Package paged: Len, Pages, has, Get, Set, Clean. -/
import Derived.Test.YtfeepmahipecpaaPagedSameInt
import Derived.Lib.SliceRun
namespace Go.Proofs.Ytfeepmahipecpaa.pd
set_option linter.unusedSimpArgs false
open Go.RowKit Go.Proofs.Ytfeepmahipecpaa.mem Go.Proofs.Ytfeepmahipecpaa.base

abbrev Pint (w : World) (p V D per : Nat) (vs : List Value) (ds : List Bool) : Prop := PAt 86 3 w p V D per vs ds

section
variable {w : World} {p V D per : Nat} {vs : List Value} {ds : List Bool}

theorem len_int (h : Pint w p V D per vs ds) :
    Calls Try.prog 37 #[.pointer (some ⟨p, 0, none⟩)] w fun e w' => e = .returned (.int .i64 vs.length) ∧ w = w' := by
  have c0 := h.c0
  clear h
  go_enter Try.func37, Try.ntmps37
  go_wp2
  go_ret
  exact ⟨rfl, rfl⟩

theorem pages_int (h : Pint w p V D per vs ds) :
    Calls Try.prog 78 #[.pointer (some ⟨p, 0, none⟩)] w fun e w' => e = .returned (.int .i64 ds.length) ∧ w = w' := by
  have c2 := h.c2
  clear h
  go_enter Try.func78, Try.ntmps78
  go_wp2
  go_ret
  exact ⟨rfl, rfl⟩

theorem has_int (h : Pint w p V D per vs ds) (i : Int) :
    Calls Try.prog 69 #[.pointer (some ⟨p, 0, none⟩), .int .i64 i] w fun e w' => e = .returned (.bool (decide (0 ≤ i) && decide (i < vs.length))) ∧ w = w' := by
  have H := hide h
  clear h
  by_cases hi : 0 ≤ i
  · go_enter Try.func69, Try.ntmps69
    go_wp2_with fail
    refine (len_int H.out).mono ?_
    rintro e w' ⟨rfl, rfl⟩
    go_wp2
    go_ret
    exact ⟨by simp [hi], rfl⟩
  · have hd : decide (0 ≤ i) = false := decide_eq_false hi
    go_enter Try.func69, Try.ntmps69
    go_wp2
    go_ret
    exact ⟨rfl, rfl⟩

theorem get_int_yes (h : Pint w p V D per vs ds) (i : Nat) (v : Value) (hi : vs[i]? = some v) :
    Calls Try.prog 45 #[.pointer (some ⟨p, 0, none⟩), .int .i64 i] w fun e w' => e = .returned (.tuple #[v, .bool true]) ∧ w = w' := by
  have hl : i < vs.length := (List.getElem?_eq_some_iff.1 hi).1
  have hn := h.n2
  have c0 := h.c0
  have cv := h.val hi
  have H := hide h
  have HD : Hid ((decide (0 ≤ (i : Int)) && decide ((i : Int) < vs.length)) = true) := hide (by simp [hl])
  clear h hi
  go_enter Try.func45, Try.ntmps45
  go_wp2_with fail
  refine (has_int H.out i).mono ?_
  rintro e w' ⟨rfl, rfl⟩
  rw [HD.out]
  go_wp2
  go_ret2
  exact ⟨rfl, rfl⟩

theorem get_int_no (h : Pint w p V D per vs ds) (i : Int) (hi : ¬ (0 ≤ i ∧ i < vs.length)) :
    Calls Try.prog 45 #[.pointer (some ⟨p, 0, none⟩), .int .i64 i] w fun e w' => e = .returned (.tuple #[.int .i64 0, .bool false]) ∧ w = w' := by
  have H := hide h
  have HD : Hid ((decide (0 ≤ i) && decide (i < vs.length)) = false) := hide (by rw [Bool.and_eq_false_iff, decide_eq_false_iff_not, decide_eq_false_iff_not]; omega)
  clear h hi
  go_enter Try.func45, Try.ntmps45
  go_wp2_with fail
  refine (has_int H.out i).mono ?_
  rintro e w' ⟨rfl, rfl⟩
  rw [HD.out]
  go_wp2
  go_ret2
  exact ⟨rfl, rfl⟩

theorem set_int_no (h : Pint w p V D per vs ds) (i : Int) (hi : ¬ (0 ≤ i ∧ i < vs.length)) (v : Value) :
    Calls Try.prog 46 #[.pointer (some ⟨p, 0, none⟩), .int .i64 i, v] w fun e w' => e = .returned (.bool false) ∧ w = w' := by
  have H := hide h
  have HD : Hid ((decide (0 ≤ i) && decide (i < vs.length)) = false) := hide (by rw [Bool.and_eq_false_iff, decide_eq_false_iff_not, decide_eq_false_iff_not]; omega)
  clear h hi
  go_enter Try.func46, Try.ntmps46
  go_wp2_with fail
  refine (has_int H.out i).mono ?_
  rintro e w' ⟨rfl, rfl⟩
  rw [HD.out]
  go_wp2
  go_ret
  exact ⟨rfl, rfl⟩

set_option maxRecDepth 100000 in
theorem set_int_yes (h : Pint w p V D per vs ds) (i : Nat) (x v : Int) (hi : vs[i]? = some (.int .i64 x)) (ds' : List Bool) (hds : ds' = if x = v then ds else ds.set (i / per) true) :
    Calls Try.prog 46 #[.pointer (some ⟨p, 0, none⟩), .int .i64 i, .int .i64 v] w fun e w' =>
      e = .returned (.bool true) ∧ Pint w' p V D per (vs.set i (.int .i64 v)) ds' ∧ Kept [V, D] w w' := by
  have hl : i < vs.length := (List.getElem?_eq_some_iff.1 hi).1
  have hn := h.n2
  have hp1 := h.p1
  have hp2 := h.p2
  have c0 := h.c0
  have cv := h.val hi
  have fv := h.vals.frozen i
  have H := hide h
  have HD : Hid ((decide (0 ≤ (i : Int)) && decide ((i : Int) < vs.length)) = true) := hide (by simp [hl])
  have HI := hide hds
  clear hds
  by_cases hxv : x = v
  · have HE : Hid (decide (x = v) = true) := hide (decide_eq_true hxv)
    have HI : Hid (ds' = ds) := hide (HI.out.trans (if_pos hxv))
    have HP := hide (h.set i (.int .i64 v))
    have HK : Hid (Kept [V, D] w (w.setCell ⟨V, i, none⟩ (.int .i64 v))) := hide ((Kept.refl _ w).set_ (.inl (by simp)) i _)
    clear h hi hxv
    go_enter Try.func46, Try.ntmps46
    go_wp2_with fail
    refine (has_int H.out i).mono ?_
    rintro e w' ⟨rfl, rfl⟩
    rw [HD.out]
    go_wp2_with fail
    refine (same_int x v _).mono ?_
    rintro e w' ⟨rfl, rfl⟩
    rw [HE.out]
    go_wp2
    go_ret
    exact ⟨rfl, by rw [HI.out]; exact HP.out, HK.out⟩
  · have HE : Hid (decide (x = v) = false) := hide (decide_eq_false hxv)
    have HI : Hid (ds' = ds.set (i / per) true) := hide (HI.out.trans (if_neg hxv))
    have hq := h.page hl
    have c1 := h.c1
    have c2 := h.c2
    have hm := h.m2
    have qd : (i : Int).tdiv (per : Int) = ((i / per : Nat) : Int) := by rw [Int.tdiv_eq_ediv_of_nonneg (by omega), ← Int.natCast_ediv]
    have qw : IntKind.i64.wrap ((i : Int).tdiv (per : Int)) = ((i / per : Nat) : Int) := by
      rw [qd]
      generalize i / per = q at *
      rw [IntKind.wrap_i64]
      omega
    have qn : ¬ (per : Int) = 0 := by omega
    obtain ⟨P', hP'⟩ : ∃ P' : Int, (per : Int) = P' := ⟨_, rfl⟩
    rw [hP'] at c1 qd qw qn
    clear hP'
    generalize hQ : i / per = q at *
    clear hQ
    have qv : IntKind.i64.wrap (q : Int) = q := by rw [IntKind.wrap_i64]; omega
    have hq0 : (0 : Int) ≤ (q : Int) := by omega
    have hq1 : (q : Int) < (ds.length : Int) := by omega
    obtain ⟨b, hb⟩ : ∃ b, ds[q]? = some b := ⟨_, List.getElem?_eq_getElem hq⟩
    have cm := h.mark hb
    have fm := h.marks.frozen q
    clear hb
    have HP := hide h
    have hiH := hide hi
    clear h hi hxv
    go_enter Try.func46, Try.ntmps46
    go_wp2_with fail
    refine (has_int H.out i).mono ?_
    rintro e w' ⟨rfl, rfl⟩
    rw [HD.out]
    go_wp2_with fail
    refine (same_int x v _).mono ?_
    rintro e w' ⟨rfl, rfl⟩
    rw [HE.out]
    go_wp2
    go_still_tail 11, (by kernel_rfl)
    change wpList _ _ _ _ _ (World.drew w')
    have HP1 : Hid (Pint (w'.drew.setCell ⟨D, q, none⟩ (.bool true)) p V D per vs (ds.set q true)) := hide (PAt.turn (HP.out.keep ((Kept.refl [] w').drew)) q true)
    have HK1 : Hid (Kept [V, D] w' (w'.drew.setCell ⟨D, q, none⟩ (.bool true))) := hide (((Kept.refl _ w').drew).set_ (.inl (by simp)) q _)
    have cm1 : w'.drew.cell? ⟨D, q, none⟩ = some (.bool b) := cm
    have fm1 : w'.drew.frozen? ⟨D, q, none⟩ = false := fm
    obtain ⟨w2, hW⟩ : ∃ w2, w'.drew.setCell ⟨D, q, none⟩ (.bool true) = w2 := ⟨_, rfl⟩
    rw [hW] at HP1 HK1
    have d0 := HP1.out.c0
    have dv := HP1.out.val hiH.out
    have dfv := HP1.out.vals.frozen i
    have HP2 := hide (HP1.out.set i (.int .i64 v))
    have HK2 : Hid (Kept [V, D] w' (w2.setCell ⟨V, i, none⟩ (.int .i64 v))) := hide (HK1.out.set_ (.inl (by simp)) i _)
    go_wp2
    go_ret
    exact ⟨rfl, by rw [HI.out]; exact HP2.out, HK2.out⟩
end
end Go.Proofs.Ytfeepmahipecpaa.pd
