/- The statements' all: all values. -/
import Derived.Test.YtfiddfanekblmaaPagedAllOf
import Derived.Test.YtfiddfanekblmaaPagedClone
import Derived.Test.YtfiddfanekblmaaOwns
namespace Go.Proofs.Ytfiddfanekblmaa.pd
set_option linter.unusedSimpArgs false
open Go.RowKit Go.Proofs.Ytfiddfanekblmaa.mem Go.Proofs.Ytfiddfanekblmaa.base

attribute [local go_sem] Oper.semAt_some

theorem placed_vals (l : List Int) : (placed l l.length).map (fun y => I y.2) = l.map I := by
  unfold placed
  rw [List.map_map]
  apply List.ext_getElem
  · simp
  · intro i h1 h2
    simp at h1
    simp [h1]
theorem placed_last (l : List Int) (pre : List (Nat × Int)) (x : Nat × Int) (h : pre ++ [x] <+: placed l l.length) : x.1 = pre.length := by
  have h1 := List.IsPrefix.getElem h (i := pre.length) (by simp)
  simp [placed] at h1
  rw [h1]

set_option maxRecDepth 100000 in
set_option maxHeartbeats 2000000 in
theorem all_in (n : Nat) (hn : 3 ≤ n) (p V D per : Nat) (vs : List Int) (ds : List Bool) (w : World) (hP : Pint w p V D per (vs.map I) ds) :
    CallsIn Fence.wide n Try.prog 19 #[.pointer (some ⟨p, 0, none⟩)] w fun e W' => ∃ v, e = .returned (.tuple #[v, .bool true]) ∧
      W'.ownsRow w.heap.size 3 1 v vs.length (vs.map I) ∧ Below w.heap.size w W' := by
  have h1 : 1 ≤ n := by omega
  have hvl := hP.n2
  rw [List.length_map] at hvl
  have hnf : ∀ (f : Nat) (a b : Array Value) (W : World), (binOp .eql 63 (.func (.func f) a b) .nilFunc).run Try.prog W = .ok (.bool false) W := fun f a b W => by kernel_rfl
  obtain ⟨i0, hi, hz0, hz1, hz2⟩ := info_parts int_info
  refine callsIn_of_wp_marks Try.func19 rfl trivial ?_ rfl
  simp only [Try.ntmps19, List.size_toArray, List.length_cons, List.length_nil, Nat.reduceAdd, Nat.reduceSub, Array.replicate_succ, Array.replicate_zero, List.push_toArray, List.append_toArray, List.nil_append, List.cons_append]
  gi_wp2_with (refine ⟨trivial, ?_⟩; gi_at_call 34; refine (callsIn_wide.2 (allOf_int (some ⟨p, 0, none⟩) _)).mono ?_; rintro e w' ⟨rfl, rfl⟩)
  have hB0 : Below w.heap.size w ((((w.alloc (.cells #[.slice none 0 0] 29)).alloc (.cells #[.bool false] 4)).alloc (.cells #[.pointer (some ⟨p, 0, none⟩)] 24)).alloc (.cells #[.slice none 0 0] 29)) := ((((Below.refl _ w).alloc (Nat.le_refl _) _).alloc (by simp) _).alloc (by rw [World.size_alloc, World.size_alloc]; omega) _).alloc (by rw [World.size_alloc, World.size_alloc, World.size_alloc]; omega) _
  have b0 := (((Boxed.new w 29 (.slice none 0 0)).alloc (.cells #[.bool false] 4)).alloc (.cells #[.pointer (some ⟨p, 0, none⟩)] 24)).alloc (.cells #[.slice none 0 0] 29)
  have b1 := ((Boxed.new (w.alloc (.cells #[.slice none 0 0] 29)) 4 (.bool false)).alloc (.cells #[.pointer (some ⟨p, 0, none⟩)] 24)).alloc (.cells #[.slice none 0 0] 29)
  have b2 := (Boxed.new ((w.alloc (.cells #[.slice none 0 0] 29)).alloc (.cells #[.bool false] 4)) 24 (.pointer (some ⟨p, 0, none⟩))).alloc (.cells #[.slice none 0 0] 29)
  have b3 := Boxed.new (((w.alloc (.cells #[.slice none 0 0] 29)).alloc (.cells #[.bool false] 4)).alloc (.cells #[.pointer (some ⟨p, 0, none⟩)] 24)) 29 (.slice none 0 0)
  rw [World.size_alloc] at b1 b2 b3
  rw [World.size_alloc] at b2 b3
  rw [World.size_alloc] at b3
  have hS4 : ((((w.alloc (.cells #[.slice none 0 0] 29)).alloc (.cells #[.bool false] 4)).alloc (.cells #[.pointer (some ⟨p, 0, none⟩)] 24)).alloc (.cells #[.slice none 0 0] 29)).heap.size = w.heap.size + 1 + 1 + 1 + 1 := by rw [World.size_alloc, World.size_alloc, World.size_alloc, World.size_alloc]
  refine wpIn_rangeFunc_ownG rfl h1 (gf := 45) (lb := #[.pointer (some ⟨w.heap.size + 1 + 1, 0, none⟩)]) rfl trivial (enters_of Try.func45 (by kernel_rfl) rfl)
    (all_stops (n - 1) (w.heap.size + 1 + 1) (w.heap.size + 1 + 1 + 1) p V D per vs ds _ (by omega) (by rw [hS4]; omega) b2.cell ⟨w, by omega, hB0, hP⟩) belowK_t (belowK_b (by rw [hS4]; omega)) (Below.refl _ _) (fun _ => rfl)
    (fun pre W => (((∃ v, Boxed W (w.heap.size + 1 + 1 + 1) 29 v ∧ W.ownsRow (w.heap.size + 1 + 1 + 1) 3 1 v pre.length (pre.map (fun y => I y.2)) ∧ True) ∧ Boxed W w.heap.size 29 (.slice none 0 0)) ∧ Boxed W (w.heap.size + 1) 4 (.bool false)) ∧ Below w.heap.size w W)
    (fun (c : Code) (xs : List (Nat × Int)) (_ : World) => c = .ret ∧ ∃ (pre : List (Nat × Int)) (x : Nat × Int), xs = pre ++ [x] ∧ x.1 ≠ pre.length)
    (OwnFrom.and (OwnFrom.and (OwnFrom.and (Own.from (holdsRow_own (w.heap.size + 1 + 1 + 1) (w.heap.size + 1 + 1 + 1) 29 3 1 (fun pre : List (Nat × Int) => pre.length) (fun pre => pre.map (fun y => I y.2)) (fun _ _ => True)) _) (Own.from (boxed_own w.heap.size 29 (fun _ : List (Nat × Int) => .slice none 0 0)) _)) (Own.from (boxed_own (w.heap.size + 1) 4 (fun _ : List (Nat × Int) => .bool false)) _)) (ownFrom_below (Nat.le_refl _) (by rw [hS4]; omega)))
    (fun _ _ _ _ _ hs _ _ => hs)
    ⟨⟨⟨⟨_, b3, World.ownsRow_nil _ _ _ _, trivial⟩, b0⟩, b1⟩, hB0⟩
    (fun x => { tmps := #[.pointer (some ⟨p, 0, none⟩), undef, .pointer (some ⟨w.heap.size, 0, none⟩), .pointer (some ⟨w.heap.size + 1, 0, none⟩), .func (.func 45) #[] #[.pointer (some ⟨w.heap.size + 1 + 1, 0, none⟩)], .pointer (some ⟨w.heap.size + 1 + 1 + 1, 0, none⟩), .int .i64 (x.1 : Int), .int .i64 x.2, .pointer (some ⟨p, 0, none⟩), .func (.func 45) #[] #[.pointer (some ⟨w.heap.size + 1 + 1, 0, none⟩)], .func (.func 45) #[] #[.pointer (some ⟨w.heap.size + 1 + 1, 0, none⟩)], .bool false, .func (.func 45) #[] #[.pointer (some ⟨w.heap.size + 1 + 1, 0, none⟩)], .int .i64 (x.1 : Int), .int .i64 x.2, undef, undef, undef, undef, undef, undef, undef, undef, undef, undef, undef, undef, undef, undef], defers := [] }) ?assign ?body ?done ?stop
  case assign =>
    intro l x W K hK
    gi_wp2
    exact hK
  case body =>
    rintro l pre x W ⟨⟨⟨⟨v, hv, hrow, _⟩, hb⟩, hb'⟩, hB⟩ hlt
    obtain ⟨A, c, hvs, hAc⟩ : ∃ A c, v = .slice A pre.length c ∧ True := by
      obtain ⟨A, c, h, _⟩ := own_slice hrow
      exact ⟨A, c, h, trivial⟩
    subst hvs
    have hc := hv.cell
    have hcb := hb.cell
    have hcf := hb.frozen
    have hcb' := hb'.cell
    have hcf' := hb'.frozen
    have hs2 : w.heap.size + 1 + 1 + 1 ≤ W.heap.size := Nat.le_of_lt hv.lt
    by_cases hx : x.1 = pre.length
    · have hne : ((x.1 : Int) != (pre.length : Int)) = false := by rw [bne_eq_false_iff_eq]; omega
      have h7 : ¬ (70000 : Int) < (pre.length : Int) := by omega
      have HX := hide hx
      clear hx
      gi_wp2_with (gi_at_builtin; refine wpListIn_append_own _ rfl _ _ 29 rfl (w.heap.size + 1 + 1 + 1) 3 i0 (.int .i64 0) 1 8 Try.underlying29 hi hz0 hz1 hz2 rfl (by decide) _ _ _ rfl (hrow.alloc _) ⟨W.heap.size, 0, none⟩ 1 1 [.int .i64 x.2] rfl rfl (cell_one_new _ _ _) (by simp [Value.oneCell']) (by simp only [maxLen]; omega) (by omega) (by rw [World.size_alloc]; omega) ?_; intro v' w1 hown' hgrow _; obtain ⟨g', cap', rfl⟩ := ownsRow_succ hown'; obtain ⟨hv1, hv2, hr2, hk2, hb2⟩ := hv.appended (by decide) hrow hs2 (Nat.le_refl _) hown' hgrow; have hc1 := hv1.cell; have hf1 := hv1.frozen)
      have hb3 : Boxed (w1.setCell ⟨w.heap.size + 1 + 1 + 1, 0, none⟩ (.slice (some ⟨g', 0, none⟩) (pre.length + 1) cap')) w.heap.size 29 (.slice none 0 0) := (hb2.block w.heap.size (by omega)).trans hb
      have hb4 : Boxed (w1.setCell ⟨w.heap.size + 1 + 1 + 1, 0, none⟩ (.slice (some ⟨g', 0, none⟩) (pre.length + 1) cap')) (w.heap.size + 1) 4 (.bool false) := (hb2.block (w.heap.size + 1) (by omega)).trans hb'
      exact ⟨hk2.from _, hb2, ⟨⟨⟨⟨_, hv2, (by rw [List.map_append, List.length_append]; exact hr2)⟩, hb3⟩, hb4⟩, hB.trans (hb2.mono (by omega))⟩⟩
    · have hne : ((x.1 : Int) != (pre.length : Int)) = true := by rw [bne_iff_ne]; omega
      have HX := hide hx
      clear hx
      gi_wp2
      exact ⟨((KeepsOthers.setCell _ _ _).trans (KeepsOthers.setCell _ _ _)).from _, rfl, pre, x, rfl, HX.out⟩
  case done =>
    rintro DD ys W hD rfl ⟨⟨⟨⟨v, hv, hrow, _⟩, hb⟩, hb'⟩, hB⟩ hK
    obtain ⟨A, c, hvs, hAc⟩ : ∃ A c, v = .slice A (placed vs vs.length).length c ∧ True := by
      obtain ⟨A, c, h, _⟩ := own_slice hrow
      exact ⟨A, c, h, trivial⟩
    subst hvs
    have hc := hv.cell
    have hcb := hb.cell
    have hcf := hb.frozen
    have hcb' := hb'.cell
    have hcf' := hb'.frozen
    have HO := hide hrow
    have HB := hide hv
    have HK := hide hK
    have HBe := hide hB
    have hb1 := hb.set (.slice A (placed vs vs.length).length c)
    have hne1 : w.heap.size + 1 ≠ w.heap.size := by omega
    have hbb : Boxed (W.setCell ⟨w.heap.size, 0, none⟩ (.slice A (placed vs vs.length).length c)) (w.heap.size + 1) 4 (.bool false) := (Below.heap_setCell W ⟨w.heap.size, 0, none⟩ _ _ hne1).trans hb'
    have hb2 := hbb.set (.bool true)
    have hb3 : Boxed ((W.setCell ⟨w.heap.size, 0, none⟩ (.slice A (placed vs vs.length).length c)).setCell ⟨w.heap.size + 1, 0, none⟩ (.bool true)) w.heap.size 29 (.slice A (placed vs vs.length).length c) := (Below.heap_setCell _ ⟨w.heap.size + 1, 0, none⟩ _ _ (Ne.symm hne1)).trans hb1
    have HB2 := hide hb2
    have HB3 := hide hb3
    clear hb1 hb2 hb3 hbb hrow hv hK hB
    gi_wp2
    obtain ⟨W2, hW2⟩ : ∃ W2, (W.setCell ⟨w.heap.size, 0, none⟩ (.slice A (placed vs vs.length).length c)).setCell ⟨w.heap.size + 1, 0, none⟩ (.bool true) = W2 := ⟨_, rfl⟩
    have hko : KeepsOthers W W2 := by rw [← hW2]; exact (KeepsOthers.setCell W _ _).trans (KeepsOthers.setCell _ _ _)
    have hK2 := hko.same DD _ HK.out rfl
    have hD2 : w.heap.size ≤ DD := by rw [hS4] at hD; omega
    have hB2 : Below w.heap.size w W2 := by rw [← hW2]; exact (HBe.out.setCell (p := ⟨w.heap.size, 0, none⟩) (Nat.le_refl _) _).setCell (p := ⟨w.heap.size + 1, 0, none⟩) (Nat.le_succ _) _
    have hO2 : W2.ownsRow w.heap.size 3 1 (.slice A (placed vs vs.length).length c) (placed vs vs.length).length ((placed vs vs.length).map (fun y => I y.2)) := by
      have hk : Kept [w.heap.size, w.heap.size + 1] W W2 := by rw [← hW2]; exact ((Kept.refl _ W).set_ (.inl (by simp)) 0 _).set_ (.inl (by simp)) 0 _
      have hlow := owns.own_blk HO.out
      exact owns.own_low (owns.own_keep HO.out hk (fun i hi hm => by
        have := (hlow i hm).1
        simp at hi
        omega)) (by omega)
    have hB22 := HB2.out
    have hB33 := HB3.out
    rw [hW2] at hB22 hB33 ⊢
    refine ⟨by simp, .inl ⟨_, _, rfl, run_takeDeferred hK2, ?_⟩⟩
    have hO3 := ownsRow_putObj hO2 (.deferred none) hK2 rfl
    have hB3 : Below w.heap.size w (W2.putObj DD (.deferred none)) := hB2.trans (belowK_b (w := w) (Nat.le_refl _) W2 DD _ _ hD2 hK2 rfl rfl)
    have hne2 : w.heap.size ≠ DD := by intro e; rw [← e] at hK2; unfold Boxed at hB33; rw [hB33] at hK2; cases hK2
    have hne3 : w.heap.size + 1 ≠ DD := by intro e; rw [← e] at hK2; unfold Boxed at hB22; rw [hB22] at hK2; cases hK2
    have q0 : (W2.putObj DD (.deferred none)).cell? ⟨w.heap.size, 0, none⟩ = some (.slice A (placed vs vs.length).length c) := Boxed.cell ((World.putObj_heap_other hne2).trans hB33)
    have q1 : (W2.putObj DD (.deferred none)).cell? ⟨w.heap.size + 1, 0, none⟩ = some (.bool true) := Boxed.cell ((World.putObj_heap_other hne3).trans hB22)
    have hpl : (placed vs vs.length).length = vs.length := placed_length vs vs.length
    rw [placed_vals, hpl] at hO3
    rw [hpl] at q0
    generalize W2.putObj DD (.deferred none) = W5 at *
    refine ⟨.tuple #[.slice A vs.length c, .bool true], ?_, _, rfl, hO3, hB3⟩
    simp [results, Try.results19, go_sem, q0, q1]
  case stop =>
    rintro DD c xs W hD hSp ⟨rfl, pre, x, rfl, hne⟩ hK
    exact absurd (placed_last vs pre x hSp) hne

theorem all_any (p V D per : Nat) (vs : List Int) (ds : List Bool) (w : World) (hP : Pint w p V D per (vs.map I) ds) :
    Calls Try.prog 19 #[.pointer (some ⟨p, 0, none⟩)] w fun e W' => ∃ v, e = .returned (.tuple #[v, .bool true]) ∧
      W'.ownsRow w.heap.size 3 1 v vs.length (vs.map I) ∧ Kept [] w W' :=
  (callsIn_wide.1 (all_in 3 (Nat.le_refl _) p V D per vs ds w hP)).mono fun _ _ ⟨v, he, ho, hb⟩ => ⟨v, he, ho, Kept.of_below hb []⟩
end Go.Proofs.Ytfiddfanekblmaa.pd
