/- slices.Collect of a walk over the segments of one state. -/
import Derived.Test.YtjcnndnipnkhoaaUsageSeq
namespace Go.Proofs.Ytjcnndnipnkhoaa.us
set_option linter.unusedSimpArgs false
open Go.RowKit Go.Proofs.Ytjcnndnipnkhoaa.mem Go.Proofs.Ytjcnndnipnkhoaa.base Go.Proofs.Ytjcnndnipnkhoaa.geom

attribute [local go_sem] Oper.semAt_some

set_option maxRecDepth 100000 in
set_option maxHeartbeats 2000000 in
theorem appended_in (n : Nat) (hn : 3 ≤ n) (Bt Bs : Nat) (P : Option Addr) (st : Int) (rs : List Rw) (hd : rs.length ≤ 65536) (w : World) (hBt : Bt < w.heap.size) (hBs : Bs < w.heap.size) (hct : w.cell? ⟨Bt, 0, none⟩ = some (.pointer P)) (hcs : w.cell? ⟨Bs, 0, none⟩ = some (.int .i64 st)) (hP : IsT w P rs) :
    CallsIn Fence.wide n Try.prog 66 #[.slice none 0 0, .func (.func 67) #[] #[.pointer (some ⟨Bt, 0, none⟩), .pointer (some ⟨Bs, 0, none⟩)]] w fun e W' => ∃ v, e = .returned v ∧
      W'.ownsRow w.heap.size 3 1 v (inState rs st rs.length).length ((inState rs st rs.length).map I) ∧ Below w.heap.size w W' := by
  have h1 : 1 ≤ n := by omega
  obtain ⟨i0, hi, hz0, hz1, hz2⟩ := info_parts int_info
  refine callsIn_of_wp_marks Try.func66 rfl trivial ?_ rfl
  simp only [Try.ntmps66, List.size_toArray, List.length_cons, List.length_nil, Nat.reduceAdd, Nat.reduceSub, Array.replicate_succ, Array.replicate_zero, List.push_toArray, List.append_toArray, List.nil_append, List.cons_append]
  gi_wp2
  have hB0 : Below w.heap.size w (w.alloc (.cells #[.slice none 0 0] 48)) := (Below.refl _ w).alloc (Nat.le_refl _) _
  have b0 := Boxed.new w 48 (.slice none 0 0)
  have ct := (hB0.cell (p := ⟨Bt, 0, none⟩) hBt).trans hct
  have cs := (hB0.cell (p := ⟨Bs, 0, none⟩) hBs).trans hcs
  refine wpIn_rangeFunc_ownG rfl h1 (gf := 67) (lb := #[.pointer (some ⟨Bt, 0, none⟩), .pointer (some ⟨Bs, 0, none⟩)]) rfl trivial (enters_of Try.func67 (by kernel_rfl) rfl)
    (in1_stops (n - 1) Bt Bs w.heap.size P st rs _ hBt hBs (by simp only [World.size_alloc]; omega) ct cs ⟨w, by omega, hB0, hP⟩) belowK_t (belowK_b (by simp only [World.size_alloc]; omega)) (Below.refl _ _) (fun _ => rfl)
    (fun pre W => (∃ v, Boxed W w.heap.size 48 v ∧ W.ownsRow w.heap.size 3 1 v pre.length (pre.map I) ∧ True) ∧ Below w.heap.size w W)
    (fun c xs W => False)
    (OwnFrom.and (Own.from (holdsRow_own w.heap.size w.heap.size 48 3 1 (fun pre : List Int => pre.length) (fun pre => pre.map I) (fun _ _ => True)) _) (ownFrom_below (Nat.le_refl _) (by simp only [World.size_alloc]; omega)))
    (fun c => fun _ _ _ _ h _ _ => h)
    ⟨⟨_, b0, World.ownsRow_nil _ _ _ _, trivial⟩, hB0⟩
    (fun x => { tmps := #[.slice none 0 0, .func (.func 67) #[] #[.pointer (some ⟨Bt, 0, none⟩), .pointer (some ⟨Bs, 0, none⟩)], .pointer (some ⟨w.heap.size, 0, none⟩), undef, .slice none 0 0, .int .i64 x, .func (.func 67) #[] #[.pointer (some ⟨Bt, 0, none⟩), .pointer (some ⟨Bs, 0, none⟩)], .int .i64 x, undef, undef, undef, undef, undef], defers := [] }) ?assign ?body ?done ?stop
  case assign =>
    intro l x W K hK
    gi_wp2
    exact hK
  case body =>
    rintro l pre x W ⟨⟨v, hv, hrow, _⟩, hB⟩ hlt
    obtain ⟨A, c, hvs, hAc⟩ : ∃ A c, v = .slice A pre.length c ∧ True := by
      obtain ⟨A, c, h, _⟩ := own_slice hrow
      exact ⟨A, c, h, trivial⟩
    subst hvs
    have hc := hv.cell
    have hs2 : w.heap.size ≤ W.heap.size := Nat.le_of_lt hv.lt
    gi_wp2_with (gi_at_builtin; refine wpListIn_append_own _ rfl _ _ 48 rfl w.heap.size 3 i0 (.int .i64 0) 1 8 Try.underlying48 hi hz0 hz1 hz2 rfl (by decide) _ _ _ rfl (hrow.alloc _) ⟨W.heap.size, 0, none⟩ 1 1 [.int .i64 x] rfl rfl (cell_one_new _ _ _) (by simp [Value.oneCell']) (by simp only [maxLen]; omega) (by omega) (by rw [World.size_alloc]; omega) ?_; intro v' w1 hown' hgrow _; obtain ⟨g', cap', rfl⟩ := ownsRow_succ hown'; obtain ⟨hv1, hv2, hr2, hk2, hb2⟩ := hv.appended (by decide) hrow hs2 (Nat.le_refl _) hown' hgrow; have hc1 := hv1.cell; have hf1 := hv1.frozen)
    exact ⟨hk2.from _, hb2, ⟨_, hv2, by rw [List.map_append, List.length_append]; exact hr2, trivial⟩, hB.trans hb2⟩
  case done =>
    rintro D ys W hD rfl ⟨⟨v, hv, hrow, _⟩, hB⟩ hK
    have hc := hv.cell
    gi_wp2
    refine ⟨by simp, .inl ⟨_, _, rfl, run_takeDeferred hK, ?_⟩⟩
    have hD2 : w.heap.size ≤ D := by simp only [World.size_alloc] at hD; omega
    exact ⟨_, results_tmp rfl _ _ _, v, rfl, ownsRow_putObj hrow _ hK rfl, hB.trans (belowK_b (w := w) (Nat.le_refl _) W D _ _ hD2 hK rfl rfl)⟩
  case stop =>
    rintro D c xs W hD hSp h hK
    exact h.elim

theorem collect_any (Bt Bs : Nat) (P : Option Addr) (st : Int) (rs : List Rw) (hd : rs.length ≤ 65536) (w : World) (hBt : Bt < w.heap.size) (hBs : Bs < w.heap.size) (hct : w.cell? ⟨Bt, 0, none⟩ = some (.pointer P)) (hcs : w.cell? ⟨Bs, 0, none⟩ = some (.int .i64 st)) (hP : IsT w P rs) :
    Calls Try.prog 54 #[.func (.func 67) #[] #[.pointer (some ⟨Bt, 0, none⟩), .pointer (some ⟨Bs, 0, none⟩)]] w fun e W' => ∃ A c, e = .returned (.slice A (inState rs st rs.length).length c) ∧
      (∀ S : List Nat, (∀ i ∈ S, i < w.heap.size) → Vals W' S A ((inState rs st rs.length).map I)) ∧ Kept [] w W' := by
  have H := hide (callsIn_wide.1 (appended_in 3 (Nat.le_refl _) Bt Bs P st rs hd w hBt hBs hct hcs hP))
  clear hct hcs hP
  go_enter Try.func54, Try.ntmps54
  go_wp2_with fail
  refine H.out.mono ?_
  rintro e w1 ⟨v, rfl, ho, hb⟩
  obtain ⟨A, c, rfl, _, hv⟩ := owns.own_read ho
  have hk := Kept.of_below hb []
  have HV := hide hv
  clear hv ho
  go_wp2
  go_ret
  exact ⟨A, c, rfl, fun S hS => HV.out S (fun i hi => .inl (hS i hi)), hk⟩
end Go.Proofs.Ytjcnndnipnkhoaa.us
