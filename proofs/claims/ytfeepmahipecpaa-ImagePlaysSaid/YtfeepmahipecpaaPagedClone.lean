/- Package paged: Page, a copy. -/
import Derived.Test.YtfeepmahipecpaaPagedPage
import Derived.Test.YtfeepmahipecpaaOwns
namespace Go.Proofs.Ytfeepmahipecpaa.pd
set_option linter.unusedSimpArgs false
open Go.RowKit Go.Proofs.Ytfeepmahipecpaa.mem Go.Proofs.Ytfeepmahipecpaa.base

theorem nil_ints (W : World) (A : Option Addr) (n c : Nat) : (binOp .eql 29 (.slice A n c) (.slice none 0 0)).run Try.prog W = .ok (.bool A.isNone) W := Lib.run_eql_slice_nil (P := Try.prog) W 29 3 A n c 0 0 Try.underlying29

theorem clone_nil (w : World) :
    Calls Try.prog 71 #[.slice none 0 0] w fun e w' => e = .returned (.slice none 0 0) ∧ w = w' := by
  have hq := nil_ints
  go_enter Try.func71, Try.ntmps71
  go_wp2
  go_ret
  exact ⟨rfl, rfl⟩

theorem own_empty (w : World) (base : Nat) (t : TypeId) (hb : base ≤ w.heap.size) : (w.alloc (.cells #[] t)).ownsRow base t 1 (.slice (some ⟨w.heap.size, 0, none⟩) 0 0) 0 [] :=
  ⟨rfl, .inr ⟨w.heap.size, 0, #[], rfl, hb, heap_alloc_new w _, by simp, by simp, by simp, by simp⟩⟩

set_option maxRecDepth 100000 in
theorem clone_any (a : Addr) (n c : Nat) (xs : List Value) (w : World) (hv : Vals w [] (some a) xs) (hx : xs.length = n) (h1 : ∀ u ∈ xs, u.oneCell' = true) (hn : n ≤ 65536) :
    Calls Try.prog 71 #[.slice (some a) n c] w fun e w' => ∃ v, e = .returned v ∧ w'.ownsRow w.heap.size 3 1 v n xs ∧ Kept [] w w' := by
  have hq := nil_ints
  have HO := hide (own_empty w w.heap.size 3 (Nat.le_refl _))
  have HV := hide (hv.kept ((Kept.refl [] w).alloc (.cells #[] 3)) (by simp))
  have HX : Hid (xs.length = n * 1) := hide (by rw [hx, Nat.mul_one])
  have H1 := hide h1
  have hs : w.heap.size ≤ (w.alloc (.cells #[] 3)).heap.size := by simp
  have HS := hide hs
  have hm : 0 + n ≤ maxLen := by simp only [maxLen]; omega
  clear hv hx h1 hs
  go_enter Try.func71, Try.ntmps71
  go_wp2_with (
    with_reducible refine wpList_append_vals (o := ⟨some 7, _, _, _, _, _⟩) ?_ (.tmp 5) (.tmp 6) 29 ?_ w.heap.size 3 (.int .i64 0) 1 8 Try.underlying29 int_info ?_ (by omega) (.slice (some ⟨w.heap.size, 0, none⟩) 0 0) 0 [] ?_ HO.out [] (some a) n c xs ?_ HX.out HV.out H1.out hm (by omega) HS.out ?_
    · rfl
    · rfl
    · rfl
    · rfl
    · rfl
    intro v1 w1 hown1 hk1 hat1
    have HW := hide hown1
    have HK : Hid (Kept [] w w1) := hide (((Kept.refl [] w).alloc _).trans hk1 (by simp [Value.ownBlock]))
    clear hown1 hk1 hat1)
  go_ret
  exact ⟨_, rfl, by have := HW.out; simpa using this, HK.out⟩

section
variable {w : World} {p V D per : Nat} {vs : List Value} {ds : List Bool}

theorem part_oneCell {xs : List Value} (h : ∀ u ∈ xs, u.oneCell' = true) (i m : Nat) : ∀ u ∈ (xs.drop i).take m, u.oneCell' = true :=
  fun u hu => h u (List.mem_of_mem_drop (List.mem_of_mem_take hu))

theorem pageOf_yes (h : Pint w p V D per vs ds) (h1 : ∀ u ∈ vs, u.oneCell' = true) (k : Nat) (hk : k < ds.length) (b m : Nat) (hb : k * per = b) (hm : min (b + per) vs.length - b = m) :
    Calls Try.prog 48 #[.pointer (some ⟨p, 0, none⟩), .int .i64 k] w fun e w' => ∃ v, e = .returned v ∧ w'.ownsRow w.heap.size 3 1 v m ((vs.drop b).take m) ∧ Kept [] w w' := by
  have hs := h.starts hk
  have hp1 := h.p1
  have hn2 := h.n2
  have HY := page_yes h k hk vs.length b rfl hb
  rw [hm] at HY
  rw [hb] at hs
  have HY := hide HY
  have hxl : ((vs.drop b).take m).length = m := by rw [List.length_take, List.length_drop]; omega
  have hvv : Vals w [] (some ⟨V, b, none⟩) ((vs.drop b).take m) := Vals.blk b h.vals (by simp) (fun i u hu => by
    have hi : i < m := by have := (List.getElem?_eq_some_iff.1 hu).1; omega
    rw [List.getElem?_take_of_lt hi, List.getElem?_drop] at hu
    simpa using hu)
  have HV := hide hvv
  have HX := hide hxl
  have HO := hide (part_oneCell h1 b m)
  have hm2 : m ≤ 65536 := by omega
  clear h h1 hb hm hvv hxl
  go_enter Try.func48, Try.ntmps48
  go_wp2_with fail
  refine HY.out.mono ?_
  rintro e w1 ⟨rfl, hk1⟩
  have HV1 := hide (HV.out.kept hk1 (by simp))
  have HK1 := hide hk1
  clear hk1
  go_wp2_with fail
  refine (clone_any _ m _ _ _ HV1.out HX.out HO.out hm2).mono ?_
  rintro e w2 ⟨v, rfl, hown, hk2⟩
  have HW : Hid (w2.ownsRow w.heap.size 3 1 v m ((vs.drop b).take m)) := hide (owns.own_low hown HK1.out.size)
  have HK2 := hide (HK1.out.trans hk2 (by simp))
  clear hown hk2
  go_wp2
  go_ret
  exact ⟨_, rfl, HW.out, HK2.out⟩

theorem pageOf_no (h : Pint w p V D per vs ds) (k : Int) (hk : ¬ (0 ≤ k ∧ k < ds.length)) :
    Calls Try.prog 48 #[.pointer (some ⟨p, 0, none⟩), .int .i64 k] w fun e w' => e = .returned (.slice none 0 0) ∧ w = w' := by
  have HY := hide (page_no h k hk)
  clear h hk
  go_enter Try.func48, Try.ntmps48
  go_wp2_with fail
  refine HY.out.mono ?_
  rintro e w1 ⟨rfl, rfl⟩
  go_wp2_with fail
  refine (clone_nil _).mono ?_
  rintro e w2 ⟨rfl, rfl⟩
  go_wp2
  go_ret
  exact ⟨rfl, rfl⟩
end
end Go.Proofs.Ytfeepmahipecpaa.pd
