import Derived.Test.YtolbalafhfpjbaaGreatPWriterChunk
import Derived.Test.YtolbalafhfpjbaaGreatPRangeTurn
import Derived.Test.YtolbalafhfpjbaaGreatPUsageFree
namespace Go.Proofs.YtolbalafhfpjbaaGreat.wr
set_option linter.unusedSimpArgs false
set_option linter.unusedVariables false
open Go.RowKit mem base disk owns
attribute [local go_sem] Oper.semAt_some
theorem chunk_seq (n : Nat) (w : World) (C0 : List Nat) (Bt Bn : Nat) (ad : Addr) (A : Option Addr) (c K : Nat) (hA : 0 < K → A = some ad) (hc : 64 * K ≤ c) (hK : K ≤ 1000) (h1 : Bt < w.heap.size ∧ Bn < w.heap.size) (h2 : Bt ∉ C0 ∧ Bn ∉ C0) (c1 : w.cell? ⟨Bt, 0, none⟩ = some (.slice A (64 * K) c)) (c2 : w.cell? ⟨Bn, 0, none⟩ = some (.int .i64 64)) :
  ∀ (lp : Nat) (J Jx : List Nat → List Nat → World → Prop), (∀ pre C W m, J pre C W → J pre C (W.drewN m)) → (∀ pre C W, J pre C W → ∀ y ∈ C, y < W.heap.size) →
   (∀ pre C W x, J pre C W → pre ++ [x] <+: List.range K → YieldAt Fence.wide (n - 1 - 1) Tryz.prog lp #[.slice (some (ad.add (64 * x))) 64 64] W fun e W' =>
    ∃ C', (∀ y ∈ C', y ∈ C ∨ W.heap.size ≤ y) ∧ Kept C W W' ∧ ((e = .returned (.bool true) ∧ J (pre ++ [x]) C' W') ∨ (e = .returned (.bool false) ∧ Jx (pre ++ [x]) C' W'))) →
   ∀ W, Kept [] w W → J [] ((w.heap.size + 1) :: w.heap.size :: C0) W → CallsIn Fence.wide (n - 1) Tryz.prog 210 (#[.func (.yield lp) #[] #[]] ++ #[.pointer (some ⟨Bt, 0, none⟩), .pointer (some ⟨Bn, 0, none⟩)]) W fun e W' => (∃ v, e = .returned v) ∧ ∃ C', J (List.range K) C' W' ∨ ∃ pre, Jx pre C' W' := by
 intro lp J Jx hJ hJC hY W hk h0
 refine (chunk1_any (n - 1) lp Bt Bn ad A c K hA hc hK (fun k W1 => ∃ C, J (List.range k) C W1 ∧ (Bt ∉ C ∧ Bn ∉ C) ∧ (Bt < W1.heap.size ∧ Bn < W1.heap.size) ∧ W1.cell? ⟨Bt, 0, none⟩ = some (.slice A (64 * K) c) ∧ W1.cell? ⟨Bn, 0, none⟩ = some (.int .i64 64)) (fun k W1 => ∃ C, Jx (List.range k) C W1)
  (fun k W1 ⟨C, _, _, _, h⟩ => h) (fun k W1 m ⟨C, hj, hb, hs, d1, d2⟩ => ⟨C, hJ _ _ _ _ hj, hb, by simpa using hs, ((Kept.refl [] W1).drewN m).cell d1 (by simp), ((Kept.refl [] W1).drewN m).cell d2 (by simp)⟩) (fun k W1 ⟨C, hj, hb, hs, d1, d2⟩ hlt => ?_) W
  ⟨_, h0, ⟨?_, ?_⟩, ⟨Nat.lt_of_lt_of_le h1.1 hk.size, Nat.lt_of_lt_of_le h1.2 hk.size⟩, hk.cell c1 (by simp), hk.cell c2 (by simp)⟩).mono ?_
 ·refine (hY (List.range k) C W1 k hj ?_).mono ?_
  ·rw [← List.range_succ]
   exact List.prefix_iff_eq_take.2 (by rw [List.take_range, List.length_range, Nat.min_eq_left (by omega)])
  ·rintro e W' ⟨C', hC', hk', (⟨rfl, hj'⟩ | ⟨rfl, hj'⟩)⟩
   ·rw [← List.range_succ] at hj'
    refine .inl ⟨rfl, C', hj', ⟨fun hm => (hC' _ hm).elim hb.1 (fun h => by omega), fun hm => (hC' _ hm).elim hb.2 (fun h => by omega)⟩, ⟨Nat.lt_of_lt_of_le hs.1 hk'.size, Nat.lt_of_lt_of_le hs.2 hk'.size⟩, hk'.cell d1 hb.1, hk'.cell d2 hb.2⟩
   ·rw [← List.range_succ] at hj'
    exact .inr ⟨rfl, C', hj'⟩
 ·simp
  exact ⟨by omega, by omega, h2.1⟩
 ·simp
  exact ⟨by omega, by omega, h2.2⟩
 ·rintro e W' ⟨hv, (⟨C, hj, _⟩ | ⟨k, _, C, hj⟩)⟩
  ·exact ⟨hv, C, .inl hj⟩
  ·exact ⟨hv, C, .inr ⟨_, hj⟩⟩
theorem chunk_stops (n Bt Bn n₀ : Nat) (ad : Addr) (A : Option Addr) (c K : Nat) (w : World) (hA : 0 < K → A = some ad) (hc : 64 * K ≤ c) (hK : K ≤ 1000) (hBt : Bt < n₀) (hBn : Bn < n₀) (hn₀ : n₀ ≤ w.heap.size) (c1 : w.cell? ⟨Bt, 0, none⟩ = some (.slice A (64 * K) c)) (c2 : w.cell? ⟨Bn, 0, none⟩ = some (.int .i64 64)) :
  SeqStopsK Fence.wide n Tryz.prog 210 #[.pointer (some ⟨Bt, 0, none⟩), .pointer (some ⟨Bn, 0, none⟩)] (fun k : Nat => #[Value.slice (some (ad.add (64 * k))) 64 64]) (Below n₀) (fun ys => ys = List.range K) (fun pre => pre <+: List.range K) K w := fun lp J Jx W hW hJ _ hY h0 => by
 have hc' := (hW.cell (p := ⟨Bt, 0, none⟩) (Nat.lt_of_lt_of_le hBt hn₀)).trans c1
 have hs' := (hW.cell (p := ⟨Bn, 0, none⟩) (Nat.lt_of_lt_of_le hBn hn₀)).trans c2
 refine (chunk1_any n lp Bt Bn ad A c K hA hc hK (fun k W1 => J (List.range k) W1 ∧ Below n₀ W W1) (fun k W1 => Jx (List.range k) W1) (fun k W1 h => ⟨(h.2.cell (p := ⟨Bt, 0, none⟩) hBt).trans hc', (h.2.cell (p := ⟨Bn, 0, none⟩) hBn).trans hs'⟩) (fun k W1 m h =>
   ⟨hJ _ W1 _ none h.1 ⟨rfl, rfl, rfl, Nat.le_refl _, fun _ _ _ => rfl⟩ (fun r e => by cases e), below_drewN h.2 m⟩) (fun k W1 h hl => ?_) W ⟨h0, Below.refl _ _⟩).mono ?_
 ·refine (hY (List.range k) k W1 h.1 (by simpa using hl)).mono ?_
  rintro e W' (⟨rfl, hj, hk⟩ | ⟨rfl, hj⟩)
  ·exact .inl ⟨rfl, by rw [List.range_succ]; exact hj, h.2.trans hk⟩
  ·exact .inr ⟨rfl, by rw [List.range_succ]; exact hj⟩
 ·rintro e W' ⟨hv, (hj | ⟨k, hk, hj⟩)⟩
  ·exact ⟨hv, .inl ⟨_, rfl, hj.1⟩⟩
  ·exact ⟨hv, .inr ⟨_, List.prefix_iff_eq_take.2 (by rw [List.take_range, List.length_range, Nat.min_eq_left hk]), hj⟩⟩
theorem slice_info2 : (Tryz.prog.info? 41).map (fun i => (i.zero, i.size, i.bytes)) = some (some (.slice none 0 0), 1, 24) := by kernel_rfl
set_option maxRecDepth 100000 in
set_option maxHeartbeats 2000000 in
theorem chappend_in (n : Nat) (hn : 3 ≤ n) (Bt Bn : Nat) (ad : Addr) (A : Option Addr) (c K : Nat) (w : World) (hA : 0 < K → A = some ad) (hc : 64 * K ≤ c) (hK : K ≤ 1000) (hBt : Bt < w.heap.size) (hBn : Bn < w.heap.size) (c1 : w.cell? ⟨Bt, 0, none⟩ = some (.slice A (64 * K) c)) (c2 : w.cell? ⟨Bn, 0, none⟩ = some (.int .i64 64)) :
  CallsIn Fence.wide n Tryz.prog 209 #[.slice none 0 0, .func (.func 210) #[] #[.pointer (some ⟨Bt, 0, none⟩), .pointer (some ⟨Bn, 0, none⟩)]] w fun e W' => ∃ v, e = .returned v ∧
   W'.ownsRow w.heap.size 41 1 v K ((List.range K).map fun k => Value.slice (some (ad.add (64 * k))) 64 64) ∧ Below w.heap.size w W' := by
 have h1 : 1 ≤ n := by omega
 obtain ⟨i0, hi, hz0, hz1, hz2⟩ := info_parts slice_info2
 refine callsIn_of_wp_marks Tryz.func209 rfl trivial ?_ rfl
 simp only [Tryz.ntmps209, List.size_toArray, List.length_cons, List.length_nil, Nat.reduceAdd, Nat.reduceSub, Array.replicate_succ, Array.replicate_zero, List.push_toArray, List.append_toArray, List.nil_append, List.cons_append]
 gi_wp2
 have hB0 : Below w.heap.size w (w.alloc (.cells #[.slice none 0 0] 97)) := (Below.refl _ w).alloc (Nat.le_refl _) _
 have b0 := Boxed.new w 97 (.slice none 0 0)
 have ct := (hB0.cell (p := ⟨Bt, 0, none⟩) hBt).trans c1
 have cs := (hB0.cell (p := ⟨Bn, 0, none⟩) hBn).trans c2
 refine wpIn_rangeFunc_ownG rfl h1 (gf := 210) (lb := #[.pointer (some ⟨Bt, 0, none⟩), .pointer (some ⟨Bn, 0, none⟩)]) rfl trivial (enters_of Tryz.func210 (by kernel_rfl) rfl)
  (chunk_stops (n - 1) Bt Bn w.heap.size ad A c K _ hA hc hK hBt hBn (by simp only [World.size_alloc]; omega) ct cs) belowK_t (belowK_b (by simp only [World.size_alloc]; omega)) (Below.refl _ _) (fun _ => rfl)
  (fun pre W => (∃ v, Boxed W w.heap.size 97 v ∧ W.ownsRow w.heap.size 41 1 v pre.length (pre.map fun k => Value.slice (some (ad.add (64 * k))) 64 64) ∧ True) ∧ Below w.heap.size w W)
  (fun c xs W => False)
  (OwnFrom.and (Own.from (holdsRow_own w.heap.size w.heap.size 97 41 1 (fun pre : List Nat => pre.length) (fun pre => pre.map fun k => Value.slice (some (ad.add (64 * k))) 64 64) (fun _ _ => True)) _) (ownFrom_below (Nat.le_refl _) (by simp only [World.size_alloc]; omega)))
  (fun c => fun _ _ _ _ h _ _ => h)
  ⟨⟨_, b0, World.ownsRow_nil _ _ _ _, trivial⟩, hB0⟩
  (fun x => { tmps := #[.slice none 0 0, .func (.func 210) #[] #[.pointer (some ⟨Bt, 0, none⟩), .pointer (some ⟨Bn, 0, none⟩)], .pointer (some ⟨w.heap.size, 0, none⟩), undef, .slice none 0 0, .slice (some (ad.add (64 * x))) 64 64, .func (.func 210) #[] #[.pointer (some ⟨Bt, 0, none⟩), .pointer (some ⟨Bn, 0, none⟩)], .slice (some (ad.add (64 * x))) 64 64, undef, undef, undef, undef, undef], defers := [] }) ?assign ?body ?done ?stop
 case assign =>
  intro l x W K hK
  gi_wp2
  exact hK
 case body =>
  rintro l pre x W ⟨⟨v, hv, hrow, _⟩, hB⟩ hlt
  obtain ⟨A1, c, hvs, hAc⟩ : ∃ A1 c, v = .slice A1 pre.length c ∧ True := by
   obtain ⟨A1, c, h, _⟩ := own_slice hrow
   exact ⟨A1, c, h, trivial⟩
  subst hvs
  have hcl := hv.cell
  have hs2 : w.heap.size ≤ W.heap.size := Nat.le_of_lt hv.lt
  gi_wp2_with (gi_at_builtin; refine wpListIn_append_own _ rfl _ _ 97 rfl w.heap.size 41 i0 (.slice none 0 0) 1 24 Tryz.underlying97 hi hz0 hz1 hz2 rfl (by decide) _ _ _ rfl (hrow.alloc _) ⟨W.heap.size, 0, none⟩ 1 1 [.slice (some (ad.add (64 * x))) 64 64] rfl rfl (cell_one_new _ _ _) (by simp [Value.oneCell']) (by simp only [maxLen]; omega) (by omega) (by rw [World.size_alloc]; omega) ?_; intro v' w1 hown' hgrow _; obtain ⟨g', cap', rfl⟩ := ownsRow_succ hown'; obtain ⟨hv1, hv2, hr2, hk2, hb2⟩ := hv.appended (by decide) hrow hs2 (Nat.le_refl _) hown' hgrow; have hc1 := hv1.cell; have hf1 := hv1.frozen)
  exact ⟨hk2.from _, hb2, ⟨_, hv2, by rw [List.map_append, List.length_append]; exact hr2, trivial⟩, hB.trans hb2⟩
 case done =>
  rintro D ys W hD rfl ⟨⟨v, hv, hrow, _⟩, hB⟩ hK
  rw [List.length_range] at hrow
  have hcl := hv.cell
  gi_wp2
  refine ⟨by simp, .inl ⟨_, _, rfl, run_takeDeferred hK, ?_⟩⟩
  have hD2 : w.heap.size ≤ D := by simp only [World.size_alloc] at hD; omega
  exact ⟨_, results_tmp rfl _ _ _, v, rfl, ownsRow_putObj hrow _ hK rfl, hB.trans (belowK_b (w := w) (Nat.le_refl _) W D _ _ hD2 hK rfl rfl)⟩
 case stop =>
  rintro D c xs W hD hSp h hK
  exact h.elim
theorem collect_any (Bt Bn : Nat) (ad : Addr) (A : Option Addr) (c K : Nat) (w : World) (hA : 0 < K → A = some ad) (hc : 64 * K ≤ c) (hK : K ≤ 1000) (hBt : Bt < w.heap.size) (hBn : Bn < w.heap.size) (c1 : w.cell? ⟨Bt, 0, none⟩ = some (.slice A (64 * K) c)) (c2 : w.cell? ⟨Bn, 0, none⟩ = some (.int .i64 64)) :
  Calls Tryz.prog 172 #[.func (.func 210) #[] #[.pointer (some ⟨Bt, 0, none⟩), .pointer (some ⟨Bn, 0, none⟩)]] w fun e W' => ∃ P cp, e = .returned (.slice P K cp) ∧
   (∀ S : List Nat, (∀ i ∈ S, i < w.heap.size) → Vals W' S P ((List.range K).map fun k => Value.slice (some (ad.add (64 * k))) 64 64)) ∧ Kept [] w W' := by
 have H := hide (callsIn_wide.1 (chappend_in 3 (Nat.le_refl _) Bt Bn ad A c K w hA hc hK hBt hBn c1 c2))
 clear c1 c2
 go_enter Tryz.func172, Tryz.ntmps172
 go_wp2_with fail
 refine H.out.mono ?_
 rintro e w1 ⟨v, rfl, ho, hb⟩
 obtain ⟨P, cp, rfl, _, hv⟩ := owns.own_read ho
 have hk := Kept.of_below hb []
 have HV := hide hv
 clear hv ho
 go_wp2
 go_ret
 exact ⟨P, cp, rfl, fun S hS => HV.out S (fun i hi => .inl (hS i hi)), hk⟩
end Go.Proofs.YtolbalafhfpjbaaGreat.wr
