import Derived.Test.YtolbalafhfpjbaaGreatPUsageSeq
set_option linter.unusedSimpArgs false
set_option maxRecDepth 100000
set_option maxHeartbeats 2000000
namespace Go.Proofs.YtolbalafhfpjbaaGreat.us
open Go.RowKit mem base geom
attribute [local go_sem] Oper.semAt_some
theorem appended_in (n : Nat) (hn : 3 ≤ n) (Bt Bs : Nat) (P : Option Addr) (st : Int) (rs : List Rw) (hd : rs.length ≤ 65536) (w : World) (hBt : Bt < w.heap.size) (hBs : Bs < w.heap.size) (hct : w.cell? ⟨Bt, 0, none⟩ = some (.pointer P)) (hcs : w.cell? ⟨Bs, 0, none⟩ = some (.int .i64 st)) (hP : IsT w P rs) :
  CallsIn Fence.wide n Tryz.prog 239 #[.slice none 0 0, .func (.func 180) #[] #[.pointer (some ⟨Bt, 0, none⟩), .pointer (some ⟨Bs, 0, none⟩)]] w fun e W' => ∃ v, e = .returned v ∧
   W'.ownsRow w.heap.size 3 1 v (inState rs st rs.length).length ((inState rs st rs.length).map I) ∧ Below w.heap.size w W' := by
 have h1 : 1 ≤ n := by omega
 obtain ⟨i0, hi, hz0, hz1, hz2⟩ := info_parts int_info
 refine callsIn_of_wp_marks Tryz.func239 rfl trivial ?_ rfl
 simp only [Tryz.ntmps239, List.size_toArray, List.length_cons, List.length_nil, Nat.reduceAdd, Nat.reduceSub, Array.replicate_succ, Array.replicate_zero, List.push_toArray, List.append_toArray, List.nil_append, List.cons_append]
 gi_wp2
 have hB0 : Below w.heap.size w (w.alloc (.cells #[.slice none 0 0] 72)) := (Below.refl _ w).alloc (Nat.le_refl _) _
 have b0 := Boxed.new w 72 (.slice none 0 0)
 have ct := (hB0.cell (p := ⟨Bt, 0, none⟩) hBt).trans hct
 have cs := (hB0.cell (p := ⟨Bs, 0, none⟩) hBs).trans hcs
 refine wpIn_rangeFunc_ownG rfl h1 (gf := 180) (lb := #[.pointer (some ⟨Bt, 0, none⟩), .pointer (some ⟨Bs, 0, none⟩)]) rfl trivial (enters_of Tryz.func180 (by kernel_rfl) rfl)
  (in1_stops (n - 1) Bt Bs w.heap.size P st rs _ hBt hBs (by simp only [World.size_alloc]; omega) ct cs ⟨w, by omega, hB0, hP⟩) belowK_t (belowK_b (by simp only [World.size_alloc]; omega)) (Below.refl _ _) (fun _ => rfl)
  (fun pre W => (∃ v, Boxed W w.heap.size 72 v ∧ W.ownsRow w.heap.size 3 1 v pre.length (pre.map I) ∧ True) ∧ Below w.heap.size w W)
  (fun c xs W => False)
  (OwnFrom.and (Own.from (holdsRow_own w.heap.size w.heap.size 72 3 1 (fun pre : List Int => pre.length) (fun pre => pre.map I) (fun _ _ => True)) _) (ownFrom_below (Nat.le_refl _) (by simp only [World.size_alloc]; omega)))
  (fun c => fun _ _ _ _ h _ _ => h)
  ⟨⟨_, b0, World.ownsRow_nil _ _ _ _, trivial⟩, hB0⟩
  (fun x => { tmps := #[.slice none 0 0, .func (.func 180) #[] #[.pointer (some ⟨Bt, 0, none⟩), .pointer (some ⟨Bs, 0, none⟩)], .pointer (some ⟨w.heap.size, 0, none⟩), undef, .slice none 0 0, .int .i64 x, .func (.func 180) #[] #[.pointer (some ⟨Bt, 0, none⟩), .pointer (some ⟨Bs, 0, none⟩)], .int .i64 x, undef, undef, undef, undef, undef], defers := [] }) ?assign ?body ?done ?stop
 case assign =>
  intro l x W K hK
  gi_wp2
  exact hK
 case body =>
  rintro l pre x W ⟨⟨v, hv, hrow, _⟩, hB⟩ hlt
  obtain ⟨A, c, hvs, hAc⟩ : ∃ A c, v = .slice A pre.length c ∧ True := by
   obtain ⟨A, c, h, _⟩ := own_slice hrow
   exact ⟨A, c, h, trivial⟩
  subst hvs
  have hc := hv.cell
  have hs2 : w.heap.size ≤ W.heap.size := Nat.le_of_lt hv.lt
  gi_wp2_with (gi_at_builtin; refine wpListIn_append_own _ rfl _ _ 72 rfl w.heap.size 3 i0 (.int .i64 0) 1 8 Tryz.underlying72 hi hz0 hz1 hz2 rfl (by decide) _ _ _ rfl (hrow.alloc _) ⟨W.heap.size, 0, none⟩ 1 1 [.int .i64 x] rfl rfl (cell_one_new _ _ _) (by simp [Value.oneCell']) (by simp only [maxLen]; omega) (by omega) (by rw [World.size_alloc]; omega) ?_; intro v' w1 hown' hgrow _; obtain ⟨g', cap', rfl⟩ := ownsRow_succ hown'; obtain ⟨hv1, hv2, hr2, hk2, hb2⟩ := hv.appended (by decide) hrow hs2 (Nat.le_refl _) hown' hgrow; have hc1 := hv1.cell; have hf1 := hv1.frozen)
  exact ⟨hk2.from _, hb2, ⟨_, hv2, by rw [List.map_append, List.length_append]; exact hr2, trivial⟩, hB.trans hb2⟩
 case done =>
  rintro D ys W hD rfl ⟨⟨v, hv, hrow, _⟩, hB⟩ hK
  have hc := hv.cell
  gi_wp2
  refine ⟨by simp, .inl ⟨_, _, rfl, run_takeDeferred hK, ?_⟩⟩
  have hD2 : w.heap.size ≤ D := by simp only [World.size_alloc] at hD; omega
  exact ⟨_, results_tmp rfl _ _ _, v, rfl, ownsRow_putObj hrow _ hK rfl, hB.trans (belowK_b (w := w) (Nat.le_refl _) W D _ _ hD2 hK rfl rfl)⟩
 case stop =>
  rintro D c xs W hD hSp h hK
  exact h.elim

theorem collect_any (Bt Bs : Nat) (P : Option Addr) (st : Int) (rs : List Rw) (hd : rs.length ≤ 65536) (w : World) (hBt : Bt < w.heap.size) (hBs : Bs < w.heap.size) (hct : w.cell? ⟨Bt, 0, none⟩ = some (.pointer P)) (hcs : w.cell? ⟨Bs, 0, none⟩ = some (.int .i64 st)) (hP : IsT w P rs) :
  Calls Tryz.prog 222 #[.func (.func 180) #[] #[.pointer (some ⟨Bt, 0, none⟩), .pointer (some ⟨Bs, 0, none⟩)]] w fun e W' => ∃ A c, e = .returned (.slice A (inState rs st rs.length).length c) ∧
   (∀ S : List Nat, (∀ i ∈ S, i < w.heap.size) → Vals W' S A ((inState rs st rs.length).map I)) ∧ Kept [] w W' := by
 have H := hide (callsIn_wide.1 (appended_in 3 (Nat.le_refl _) Bt Bs P st rs hd w hBt hBs hct hcs hP))
 clear hct hcs hP
 go_enter Tryz.func222, Tryz.ntmps222
 go_wp2_with fail
 refine H.out.mono ?_
 rintro e w1 ⟨v, rfl, ho, hb⟩
 obtain ⟨A, c, rfl, _, hv⟩ := owns.own_read ho
 have hk := Kept.of_below hb []
 have HV := hide hv
 clear hv ho
 go_wp2
 go_ret
 exact ⟨A, c, rfl, fun S hS => HV.out S (fun i hi => .inl (hS i hi)), hk⟩
end Go.Proofs.YtolbalafhfpjbaaGreat.us

namespace Go.Proofs.YtolbalafhfpjbaaGreat.us
open Go.RowKit mem base geom
attribute [local go_sem] Oper.semAt_some
theorem in1_stops_g (n : Nat) (Bt Bs m : Nat) (Kp : World → World → Prop) (P : Option Addr) (st : Int) (rs : List Rw) (w : World) (hBt : Bt < w.heap.size) (hBs : Bs < w.heap.size) (hm : m ≤ w.heap.size)
  (hK : ∀ A B, Kp A B → Below m A B ∧ B.heap[Bt]? = A.heap[Bt]? ∧ B.heap[Bs]? = A.heap[Bs]?) (hc : w.cell? ⟨Bt, 0, none⟩ = some (.pointer P)) (hs : w.cell? ⟨Bs, 0, none⟩ = some (.int .i64 st)) (hP : ∃ a : World, a.heap.size ≤ m ∧ Below a.heap.size a w ∧ IsT a P rs) :
  SeqStopsK Fence.wide n Tryz.prog 180 #[.pointer (some ⟨Bt, 0, none⟩), .pointer (some ⟨Bs, 0, none⟩)] (fun x : Int => #[Value.int .i64 x]) Kp (fun ys => ys = inState rs st rs.length) (fun pre => pre <+: inState rs st rs.length) rs.length w := fun lp J Jx W hW hJ _ hY h0 => by
 obtain ⟨a, ha, hb, hI⟩ := hP
 have hc' := (hW.cell (p := ⟨Bt, 0, none⟩) hBt).trans hc
 have hs' := (hW.cell (p := ⟨Bs, 0, none⟩) hBs).trans hs
 rcases hI with ⟨rfl, rfl⟩ | ⟨p, V, b, s, l, r, q, rfl, hp⟩
 ·exact (in1_nil Fence.wide n rfl lp Bt Bs J W hc' h0).mono fun e W' ⟨he, hj⟩ => ⟨he, .inl ⟨[], rfl, hj⟩⟩
 ·have k : Below a.heap.size a W := hb.trans (hW.mono (Nat.le_trans ha hm))
  have hd : ∀ pre (W1 : World) (m' : Nat), J pre W1 ∧ (Below m W W1 ∧ W1.heap[Bt]? = W.heap[Bt]? ∧ W1.heap[Bs]? = W.heap[Bs]?) → J pre (W1.drewN m') ∧ (Below m W (W1.drewN m') ∧ (W1.drewN m').heap[Bt]? = W.heap[Bt]? ∧ (W1.drewN m').heap[Bs]? = W.heap[Bs]?) := fun pre W1 m' h =>
   ⟨hJ pre W1 _ none h.1 ⟨rfl, rfl, rfl, Nat.le_refl _, fun _ _ _ => rfl⟩ (fun r e => by cases e), below_drewN h.2.1 m', h.2.2⟩
  refine (in1_any Fence.wide n rfl lp Bt Bs p V b s l r q st rs (fun pre W1 => J pre W1 ∧ (Below m W W1 ∧ W1.heap[Bt]? = W.heap[Bt]? ∧ W1.heap[Bs]? = W.heap[Bs]?)) Jx (fun pre W1 h => ?_) hd (fun pre k x W1 h _ _ _ hl => ?_) W ⟨h0, Below.refl _ _, rfl, rfl⟩).mono ?_
  ·refine ⟨(World.cell?_of_block (a := ⟨Bt, 0, none⟩) h.2.2.1).trans hc', (World.cell?_of_block (a := ⟨Bs, 0, none⟩) h.2.2.2).trans hs', rs, rfl, fun _ _ => rfl, hp.keep (Kept.of_below (k.trans (h.2.1.mono ha)) [])⟩
  ·refine (hY pre (k : Int) W1 h.1 hl).mono ?_
   rintro e W' (⟨rfl, hj, hk⟩ | ⟨rfl, hj⟩)
   ·obtain ⟨k1, k2, k3⟩ := hK _ _ hk
    exact .inl ⟨rfl, hj, h.2.1.trans k1, k2.trans h.2.2.1, k3.trans h.2.2.2⟩
   ·exact .inr ⟨rfl, hj⟩
  ·rintro e W' ⟨hv, (hj | ⟨pre, hp, hj⟩)⟩
   ·exact ⟨hv, .inl ⟨_, rfl, hj.1⟩⟩
   ·exact ⟨hv, .inr ⟨pre, hp, hj⟩⟩

theorem free_in (n : Nat) (hn : 3 ≤ n) (P : Option Addr) (rs : List Rw) (hd : rs.length ≤ 65536) (w : World) (hP : IsT w P rs) :
  CallsIn Fence.wide n Tryz.prog 66 #[.pointer P] w fun e W' => e = .returned (.int .i64 (inState rs 0 rs.length).length) ∧ Below w.heap.size w W' := by
 have h1 : 1 ≤ n := by omega
 refine callsIn_of_wp_marks Tryz.func66 rfl trivial ?_ rfl
 simp only [Tryz.ntmps66, List.size_toArray, List.length_cons, List.length_nil, Nat.reduceAdd, Nat.reduceSub, Array.replicate_succ, Array.replicate_zero, List.push_toArray, List.append_toArray, List.nil_append, List.cons_append]
 gi_wp2_with (refine ⟨trivial, ?_⟩; gi_at_call 128; refine (callsIn_wide.2 (in_any P 0 _)).mono ?_; rintro e w' ⟨rfl, rfl⟩)
 have hB0 : Below w.heap.size w (((w.alloc (.cells #[.int .i64 0] 3)).alloc (.cells #[.pointer P] 77)).alloc (.cells #[.int .i64 0] 3)) := (((Below.refl _ w).alloc (Nat.le_refl _) _).alloc (by simp) _).alloc (by simp; omega) _
 have b0 := ((Boxed.new w 3 (.int .i64 0)).alloc (.cells #[.pointer P] 77)).alloc (.cells #[.int .i64 0] 3)
 have b1 := (Boxed.new (w.alloc (.cells #[.int .i64 0] 3)) 77 (.pointer P)).alloc (.cells #[.int .i64 0] 3)
 have b2 := Boxed.new ((w.alloc (.cells #[.int .i64 0] 3)).alloc (.cells #[.pointer P] 77)) 3 (.int .i64 0)
 simp only [World.size_alloc] at b1 b2
 have hKt : ∀ {A B C : World}, (Below w.heap.size A B ∧ ∀ k, w.heap.size < k → k < w.heap.size + 1 + 1 + 1 → B.heap[k]? = A.heap[k]?) → (Below w.heap.size B C ∧ ∀ k, w.heap.size < k → k < w.heap.size + 1 + 1 + 1 → C.heap[k]? = B.heap[k]?) → (Below w.heap.size A C ∧ ∀ k, w.heap.size < k → k < w.heap.size + 1 + 1 + 1 → C.heap[k]? = A.heap[k]?) := fun h k => ⟨h.1.trans k.1, fun i h1 h2 => (k.2 i h1 h2).trans (h.2 i h1 h2)⟩
 refine wpIn_rangeFunc_ownG rfl h1 (gf := 180) (lb := #[.pointer (some ⟨w.heap.size + 1, 0, none⟩), .pointer (some ⟨w.heap.size + 1 + 1, 0, none⟩)]) rfl trivial (enters_of Tryz.func180 (by kernel_rfl) rfl)
  (in1_stops_g (n - 1) (w.heap.size + 1) (w.heap.size + 1 + 1) w.heap.size (fun A B => Below w.heap.size A B ∧ ∀ k, w.heap.size < k → k < w.heap.size + 1 + 1 + 1 → B.heap[k]? = A.heap[k]?) P 0 rs _ (by simp only [World.size_alloc]; omega) (by simp only [World.size_alloc]; omega) (by simp only [World.size_alloc]; omega) (fun A B h => ⟨h.1, h.2 _ (by omega) (by omega), h.2 _ (by omega) (by omega)⟩) b1.cell b2.cell ⟨w, by omega, hB0, hP⟩) hKt (fun W l o o' hl ho h1 h2 => ⟨belowK_b (w := w) (Nat.le_refl _) W l o o' (by simp only [World.size_alloc] at hl; omega) ho h1 h2, fun k hk1 hk2 => World.putObj_heap_other (by simp only [World.size_alloc] at hl; omega)⟩) (Below.refl _ _) (fun _ => rfl)
  (fun pre W => Boxed W w.heap.size 3 (.int .i64 pre.length) ∧ Below w.heap.size w W)
  (fun c xs W => False)
  (OwnFrom.and (Own.from (boxed_own w.heap.size 3 (fun pre : List Int => .int .i64 pre.length)) _) (ownFrom_below (Nat.le_refl _) (by simp only [World.size_alloc]; omega)))
  (fun c => fun _ _ _ _ h _ _ => h)
  ⟨b0, hB0⟩
  (fun x => { tmps := #[.pointer P, undef, .int .i64 0, .pointer (some ⟨w.heap.size, 0, none⟩), .pointer P, .func (.func 180) #[] #[.pointer (some ⟨w.heap.size + 1, 0, none⟩), .pointer (some ⟨w.heap.size + 1 + 1, 0, none⟩)], .int .i64 x, undef, undef, undef], defers := [] }) ?assign ?body ?done ?stop
 case assign =>
  intro l x W K hK
  gi_wp2
  simpa using hK
 case body =>
  rintro l pre x W ⟨hv, hB⟩ hlt
  have hc := hv.cell
  have hf := hv.frozen
  have hw1 : IntKind.i64.wrap ((pre.length : Int) + 1) = (pre.length : Int) + 1 := IntWalk.i64_in _ (by omega)
  gi_wp2
  exact ⟨KeepsFrom.of_grownBy (grownBy_setCell' W w.heap.size _) (fun j e => by cases e; simp only [World.size_alloc]; omega), ⟨(Below.refl _ W).setCell (by simp) _, fun k h1 h2 => Below.heap_setCell W _ _ k (by simp; omega)⟩, by rw [List.length_append]; exact hv.set _, hB.setCell (by simp) _⟩
 case done =>
  rintro D ys W hD rfl ⟨hv, hB⟩ hK
  have hc := hv.cell
  gi_wp2
  refine ⟨by simp, .inl ⟨_, _, rfl, run_takeDeferred hK, ?_⟩⟩
  have hD2 : w.heap.size ≤ D := by simp only [World.size_alloc] at hD; omega
  exact ⟨_, results_tmp rfl _ _ _, rfl, hB.trans (belowK_b (w := w) (Nat.le_refl _) W D _ _ hD2 hK rfl rfl)⟩
 case stop =>
  rintro D c xs W hD hSp h hK
  exact h.elim

theorem free_any (P : Option Addr) (rs : List Rw) (hd : rs.length ≤ 65536) (w : World) (hP : IsT w P rs) :
  Calls Tryz.prog 66 #[.pointer P] w fun e W' => e = .returned (.int .i64 (inState rs 0 rs.length).length) ∧ Kept [] w W' :=
 (callsIn_wide.1 (free_in 3 (Nat.le_refl _) P rs hd w hP)).mono fun _ _ ⟨he, hb⟩ => ⟨he, Kept.of_below hb []⟩
end Go.Proofs.YtolbalafhfpjbaaGreat.us
