/- The statements' sealed: the first so many Sealed segments. -/
import Derived.Test.YtjcnndnipnkhoaaUsageSeq
namespace Go.Proofs.Ytjcnndnipnkhoaa.us
set_option linter.unusedSimpArgs false
open Go.RowKit Go.Proofs.Ytjcnndnipnkhoaa.mem Go.Proofs.Ytjcnndnipnkhoaa.base Go.Proofs.Ytjcnndnipnkhoaa.geom

attribute [local go_sem] Oper.semAt_some

set_option maxRecDepth 100000 in
set_option maxHeartbeats 2000000 in
theorem sealed_in (n : Nat) (hn : 3 ≤ n) (P : Option Addr) (rs : List Rw) (hd : rs.length ≤ 65536) (most : Int) (w : World) (hP : IsT w P rs) :
    CallsIn Fence.wide n Try.prog 34 #[.pointer P, .int .i64 most] w fun e W' => ∃ v, e = .returned v ∧
      W'.ownsRow w.heap.size 3 1 v ((inState rs 2 rs.length).take most.toNat).length (((inState rs 2 rs.length).take most.toNat).map I) ∧ Below w.heap.size w W' := by
  have h1 : 1 ≤ n := by omega
  have hnf : ∀ (f : Nat) (a b : Array Value) (W : World), (binOp .eql 88 (.func (.func f) a b) .nilFunc).run Try.prog W = .ok (.bool false) W := fun f a b W => by kernel_rfl
  obtain ⟨i0, hi, hz0, hz1, hz2⟩ := info_parts int_info
  refine callsIn_of_wp_marks Try.func34 rfl trivial ?_ rfl
  simp only [Try.ntmps34, List.size_toArray, List.length_cons, List.length_nil, Nat.reduceAdd, Nat.reduceSub, Array.replicate_succ, Array.replicate_zero, List.push_toArray, List.append_toArray, List.nil_append, List.cons_append]
  gi_wp2_with (refine ⟨trivial, ?_⟩; gi_at_call 56; refine (callsIn_wide.2 (sealed_at P _)).mono ?_; rintro e w' ⟨rfl, rfl⟩)
  have hB0 : Below w.heap.size w ((((w.alloc (.cells #[.int .i64 most] 3)).alloc (.cells #[.pointer P] 33)).alloc (.cells #[.int .i64 2] 3)).alloc (.cells #[.slice none 0 0] 48)) := ((((Below.refl _ w).alloc (Nat.le_refl _) _).alloc (by simp) _).alloc (by simp; omega) _).alloc (by simp only [World.size_alloc]; omega) _
  have b0 := (((Boxed.new w 3 (.int .i64 most)).alloc (.cells #[.pointer P] 33)).alloc (.cells #[.int .i64 2] 3)).alloc (.cells #[.slice none 0 0] 48)
  have b1 := ((Boxed.new (w.alloc (.cells #[.int .i64 most] 3)) 33 (.pointer P)).alloc (.cells #[.int .i64 2] 3)).alloc (.cells #[.slice none 0 0] 48)
  have b2 := (Boxed.new ((w.alloc (.cells #[.int .i64 most] 3)).alloc (.cells #[.pointer P] 33)) 3 (.int .i64 2)).alloc (.cells #[.slice none 0 0] 48)
  have b3 := Boxed.new (((w.alloc (.cells #[.int .i64 most] 3)).alloc (.cells #[.pointer P] 33)).alloc (.cells #[.int .i64 2] 3)) 48 (.slice none 0 0)
  simp only [World.size_alloc] at b1 b2 b3
  refine wpIn_rangeFunc_ownG rfl h1 (gf := 67) (lb := #[.pointer (some ⟨w.heap.size + 1, 0, none⟩), .pointer (some ⟨w.heap.size + 1 + 1, 0, none⟩)]) rfl trivial (enters_of Try.func67 (by kernel_rfl) rfl)
    (in1_stops (n - 1) (w.heap.size + 1) (w.heap.size + 1 + 1) (w.heap.size + 1 + 1 + 1) P 2 rs _ (by omega) (by omega) (by simp only [World.size_alloc]; omega) b1.cell b2.cell ⟨w, by omega, hB0, hP⟩) belowK_t (belowK_b (by simp only [World.size_alloc]; omega)) (Below.refl _ _) (fun _ => rfl)
    (fun pre W => ((∃ v, Boxed W (w.heap.size + 1 + 1 + 1) 48 v ∧ W.ownsRow (w.heap.size + 1 + 1 + 1) 3 1 v pre.length (pre.map I) ∧ (pre.length = 0 ∨ (pre.length : Int) ≤ most)) ∧ Boxed W w.heap.size 3 (.int .i64 most)) ∧ Below w.heap.size w W)
    (fun c xs W => (∃ v, Boxed W (w.heap.size + 1 + 1 + 1) 48 v ∧ W.ownsRow (w.heap.size + 1 + 1 + 1) 3 1 v xs.dropLast.length (xs.dropLast.map I) ∧ (c = .exit 0 ∧ xs ≠ [] ∧ (xs.dropLast.length = 0 ∨ (xs.dropLast.length : Int) ≤ most) ∧ most ≤ xs.dropLast.length)) ∧ Below w.heap.size w W)
    (OwnFrom.and (OwnFrom.and (Own.from (holdsRow_own (w.heap.size + 1 + 1 + 1) (w.heap.size + 1 + 1 + 1) 48 3 1 (fun pre : List Int => pre.length) (fun pre => pre.map I) (fun pre _ => pre.length = 0 ∨ (pre.length : Int) ≤ most)) _) (Own.from (boxed_own w.heap.size 3 (fun _ : List Int => .int .i64 most)) _)) (ownFrom_below (Nat.le_refl _) (by simp only [World.size_alloc]; omega)))
    (fun c => OwnFrom.and (Own.from (holdsRow_own (w.heap.size + 1 + 1 + 1) (w.heap.size + 1 + 1 + 1) 48 3 1 (fun xs : List Int => xs.dropLast.length) (fun xs => xs.dropLast.map I) (fun xs _ => c = .exit 0 ∧ xs ≠ [] ∧ (xs.dropLast.length = 0 ∨ (xs.dropLast.length : Int) ≤ most) ∧ most ≤ xs.dropLast.length)) _) (ownFrom_below (Nat.le_refl _) (by simp only [World.size_alloc]; omega)))
    ⟨⟨⟨_, b3, World.ownsRow_nil _ _ _ _, .inl rfl⟩, b0⟩, hB0⟩
    (fun x => { tmps := #[.pointer P, .int .i64 most, undef, .pointer (some ⟨w.heap.size, 0, none⟩), .slice none 0 0, .func (.func 67) #[] #[.pointer (some ⟨w.heap.size + 1, 0, none⟩), .pointer (some ⟨w.heap.size + 1 + 1, 0, none⟩)], .pointer (some ⟨w.heap.size + 1 + 1 + 1, 0, none⟩), .int .i64 x, .pointer P, .func (.func 67) #[] #[.pointer (some ⟨w.heap.size + 1, 0, none⟩), .pointer (some ⟨w.heap.size + 1 + 1, 0, none⟩)], .func (.func 67) #[] #[.pointer (some ⟨w.heap.size + 1, 0, none⟩), .pointer (some ⟨w.heap.size + 1 + 1, 0, none⟩)], .bool false, .func (.func 67) #[] #[.pointer (some ⟨w.heap.size + 1, 0, none⟩), .pointer (some ⟨w.heap.size + 1 + 1, 0, none⟩)], .int .i64 x, undef, undef, undef, undef, undef, undef, undef, undef, undef], defers := [] }) ?assign ?body ?done ?stop
  case assign =>
    intro l x W K hK
    gi_wp2
    exact hK
  case body =>
    rintro l pre x W ⟨⟨⟨v, hv, hrow, hmo⟩, hb⟩, hB⟩ hlt
    obtain ⟨A, c, hvs, hAc⟩ : ∃ A c, v = .slice A pre.length c ∧ True := by
      obtain ⟨A, c, h, _⟩ := own_slice hrow
      exact ⟨A, c, h, trivial⟩
    subst hvs
    have hc := hv.cell
    have hcb := hb.cell
    by_cases hge : most ≤ (pre.length : Int)
    · gi_wp2
      exact ⟨KeepsFrom.refl _ _, ⟨_, hv, by rw [List.dropLast_concat]; exact hrow, rfl, by simp, by rw [List.dropLast_concat]; exact hmo, by rw [List.dropLast_concat]; exact hge⟩, hB⟩
    · have hge2 : (pre.length : Int) < most := by omega
      have hs2 : w.heap.size + 1 + 1 + 1 ≤ W.heap.size := Nat.le_of_lt hv.lt
      have hH := hide hge
      clear hge
      gi_wp2_with (gi_at_builtin; refine wpListIn_append_own _ rfl _ _ 48 rfl (w.heap.size + 1 + 1 + 1) 3 i0 (.int .i64 0) 1 8 Try.underlying48 hi hz0 hz1 hz2 rfl (by decide) _ _ _ rfl (hrow.alloc _) ⟨W.heap.size, 0, none⟩ 1 1 [.int .i64 x] rfl rfl (cell_one_new _ _ _) (by simp [Value.oneCell']) (by simp only [maxLen]; omega) (by omega) (by rw [World.size_alloc]; omega) ?_; intro v' w1 hown' hgrow _; obtain ⟨g', cap', rfl⟩ := ownsRow_succ hown'; obtain ⟨hv1, hv2, hr2, hk2, hb2⟩ := hv.appended (by decide) hrow hs2 (Nat.le_refl _) hown' hgrow; have hc1 := hv1.cell; have hf1 := hv1.frozen)
      have hb3 : Boxed (w1.setCell ⟨w.heap.size + 1 + 1 + 1, 0, none⟩ (.slice (some ⟨g', 0, none⟩) (pre.length + 1) cap')) w.heap.size 3 (.int .i64 most) := (hb2.block w.heap.size (by omega)).trans hb
      exact ⟨hk2.from _, hb2, ⟨⟨_, hv2, by rw [List.map_append, List.length_append]; exact hr2, .inr (by rw [List.length_append]; simp; omega)⟩, hb3⟩, hB.trans (hb2.mono (by omega))⟩
  case done =>
    rintro D ys W hD rfl ⟨⟨⟨v, hv, hrow, hmo⟩, hb⟩, hB⟩ hK
    have hc := hv.cell
    gi_wp2
    refine ⟨by simp, .inl ⟨_, _, rfl, run_takeDeferred hK, ?_⟩⟩
    have hD2 : w.heap.size ≤ D := by simp only [World.size_alloc] at hD; omega
    have ht : (inState rs 2 rs.length).take most.toNat = inState rs 2 rs.length := List.take_of_length_le (by omega)
    rw [ht]
    exact ⟨_, results_tmp rfl _ _ _, v, rfl, ownsRow_putObj (owns.own_low hrow (by omega)) _ hK rfl, hB.trans (belowK_b (w := w) (Nat.le_refl _) W D _ _ hD2 hK rfl rfl)⟩
  case stop =>
    rintro D c xs W hD hSp ⟨⟨v, hv, hrow, rfl, hne, hmo, hge⟩, hB⟩ hK
    have hc := hv.cell
    gi_wp2
    refine ⟨by simp, .inl ⟨_, _, rfl, run_takeDeferred hK, ?_⟩⟩
    have hD2 : w.heap.size ≤ D := by simp only [World.size_alloc] at hD; omega
    have ht : (inState rs 2 rs.length).take most.toNat = xs.dropLast := by
      obtain ⟨t, ht⟩ := hSp
      have e : most.toNat = xs.dropLast.length := by omega
      rw [e, ← ht, ← List.dropLast_concat_getLast hne]
      simp
    rw [ht]
    exact ⟨_, results_tmp rfl _ _ _, v, rfl, ownsRow_putObj (owns.own_low hrow (by omega)) _ hK rfl, hB.trans (belowK_b (w := w) (Nat.le_refl _) W D _ _ hD2 hK rfl rfl)⟩

theorem sealed_any (P : Option Addr) (rs : List Rw) (hd : rs.length ≤ 65536) (most : Int) (w : World) (hP : IsT w P rs) :
    Calls Try.prog 34 #[.pointer P, .int .i64 most] w fun e W' => ∃ v, e = .returned v ∧
      W'.ownsRow w.heap.size 3 1 v ((inState rs 2 rs.length).take most.toNat).length (((inState rs 2 rs.length).take most.toNat).map I) ∧ Kept [] w W' :=
  (callsIn_wide.1 (sealed_in 3 (Nat.le_refl _) P rs hd most w hP)).mono fun _ _ ⟨v, he, ho, hb⟩ => ⟨v, he, ho, Kept.of_below hb []⟩
end Go.Proofs.Ytjcnndnipnkhoaa.us
