/- Package usage: Release. -/
import Derived.Test.YtjcnndnipnkhoaaUsageTurns
import Derived.Test.YtjcnndnipnkhoaaUsageFrees
namespace Go.Proofs.Ytjcnndnipnkhoaa.us
set_option linter.unusedSimpArgs false
open Go.RowKit Go.Proofs.Ytjcnndnipnkhoaa.mem Go.Proofs.Ytjcnndnipnkhoaa.base Go.Proofs.Ytjcnndnipnkhoaa.geom

attribute [local go_sem] Oper.semAt_some

theorem set_grown (W : World) (a : Addr) (u : Value) : W.grownBy (W.setCell a u) (some a.block) :=
  ⟨rfl, rfl, rfl, by simp [World.setCell], fun k _ hk => Below.heap_setCell _ _ _ k (fun e => hk (by rw [e]))⟩

/-- An append to a row of its own above base, put into a box below. -/
theorem own_append {W w1 : World} {base B : Nat} {t e : TypeId} {v v' : Value} {k m : Nat} {xs ys : List Value} {tmp : Obj}
    (hv : Boxed W B t v) (hrow : W.ownsRow base e 1 v k xs) (hB : B < base) (hown : w1.ownsRow base e 1 v' m ys) (hg : (W.alloc tmp).grownBy w1 v.ownBlock) :
    Boxed w1 B t v ∧ Boxed (w1.setCell ⟨B, 0, none⟩ v') B t v' ∧ (w1.setCell ⟨B, 0, none⟩ v').ownsRow base e 1 v' m ys ∧ KeepsOthers W (w1.setCell ⟨B, 0, none⟩ v') ∧
    (∀ g t cs, Blk W g t cs → g < base → g ≠ B → Blk (w1.setCell ⟨B, 0, none⟩ v') g t cs) ∧ (∀ S a, a.heap.size ≤ B → Kept S a W → Kept S a (w1.setCell ⟨B, 0, none⟩ v')) := by
  have hne : ∀ g, g < base → some g ≠ v.ownBlock := fun g hgb e' => by
    have := (owns.own_blk hrow g (by rw [← e']; simp)).1
    omega
  have h1 : ∀ g t cs, Blk W g t cs → g < base → Blk w1 g t cs := fun g t cs h hgb => (hg.block g (by have := (h.alloc tmp).lt; exact this) (hne g hgb)).trans (h.alloc tmp)
  have hsz : W.heap.size ≤ w1.heap.size := Nat.le_trans (by simp) hg.size
  have hv1 : Boxed w1 B t v := h1 B t _ hv hB
  refine ⟨hv1, hv1.set v', owns.own_keep hown ((Kept.refl [B] w1).set_ (.inl (by simp)) 0 v') (fun i hi hm => ?_), ⟨?_, fun i o hi ho => ?_⟩, fun g t cs h hgb hgB => ?_, fun S a ha hk => ?_⟩
  · simp only [List.mem_singleton] at hi
    subst hi
    have := (owns.own_blk hown i hm).1
    omega
  · simpa [World.setCell] using hsz
  · have hil : i < W.heap.size := (Array.getElem?_eq_some_iff.1 hi).1
    have hib : i ≠ B := fun e' => by
      subst e'
      rw [show W.heap[i]? = _ from hv] at hi
      cases hi
      cases ho
    have hio : some i ≠ v.ownBlock := fun e' => by
      obtain ⟨_, _, cur, hc⟩ := owns.own_blk hrow i (by rw [← e']; simp)
      rw [show W.heap[i]? = _ from hc] at hi
      cases hi
      cases ho
    rw [Below.heap_setCell w1 ⟨B, 0, none⟩ v' i hib, hg.block i (by simp; omega) hio, Below.heap_alloc W tmp i hil]
    exact hi
  · exact (h1 g t cs h hgb).far_ hgB 0 v'
  · refine (hk.trans (b := W) (w := w1) (S' := v.ownBlock.toList) ⟨hg.os, hg.tape, hg.output, hsz, fun i hi hn => ?_⟩ (fun i hi => ?_)).set_ (.inr ha) 0 v'
    · rw [hg.block i (by simp; omega) (fun e' => hn (by rw [← e']; simp)), Below.heap_alloc W tmp i hi]
    · have := (owns.own_blk hrow i hi).1
      exact .inr (by omega)

/-- What Release's loop keeps. -/
def RelN (w : World) (p V : Nat) (b s l r q : Int) (rs : List Rw) (pre : List Int) (W : World) : Prop :=
  (TAt W p V b s l r q (relRows rs pre) ∧ Kept [V] w W ∧ Boxed W w.heap.size 33 (.pointer (some ⟨p, 0, none⟩)) ∧ Boxed W (w.heap.size + 2) 33 (.pointer (some ⟨p, 0, none⟩)) ∧ Boxed W (w.heap.size + 3) 3 (.int .i64 2)) ∧
  ∃ v, Boxed W (w.heap.size + 1) 48 v ∧ W.ownsRow (w.heap.size + 4) 3 1 v (relIds rs pre).length ((relIds rs pre).map I) ∧ True

theorem RelN.own (w : World) (B p V : Nat) (b s l r q : Int) (rs : List Rw) (hB : w.heap.size ≤ B) : OwnFrom B (RelN w p V b s l r q rs) :=
  OwnFrom.and (fun pre W W' row h hg hr => by
    obtain ⟨ht, hk, b1, b2, b3⟩ := h
    have hr' : ∀ r, row = some r → ∃ o : Obj, W.heap[r]? = some o ∧ o.isCells = false := fun r e => (hr r e).2
    exact ⟨{ ht with tab := blk_stays ht.tab hg hr', seg := blk_stays ht.seg hg hr' }, kept_stays hk hg (fun r e => Nat.le_trans hB (hr r e).1),
      blk_stays (show Blk W _ _ _ from b1) hg hr', blk_stays (show Blk W _ _ _ from b2) hg hr', blk_stays (show Blk W _ _ _ from b3) hg hr'⟩)
    (Own.from (holdsRow_own (w.heap.size + 4) (w.heap.size + 1) 48 3 1 (fun pre : List Int => (relIds rs pre).length) (fun pre => (relIds rs pre).map I) (fun _ _ => True)) _)

set_option maxRecDepth 100000 in
set_option maxHeartbeats 4000000 in
theorem release_in (n : Nat) (hn : 3 ≤ n) (p V : Nat) (b s l r q : Int) (rs : List Rw) (w : World) (hT : TAt w p V b s l r q rs) :
    CallsIn Fence.wide n Try.prog 24 #[.pointer (some ⟨p, 0, none⟩)] w fun e W' => ∃ v, e = .returned v ∧
      W'.ownsRow w.heap.size 3 1 v (deadIds rs rs.length).length ((deadIds rs rs.length).map I) ∧ TAt W' p V b s l r q (rs.map Rw.free) ∧ Kept [V] w W' := by
  have h1 : 1 ≤ n := by omega
  have HT := hide hT
  have hVl := hT.Vl
  have hpl := hT.pl
  have hbd := hT.bounds
  clear hT
  obtain ⟨i0, hi, hz0, hz1, hz2⟩ := info_parts int_info
  refine callsIn_of_wp_marks Try.func24 rfl trivial ?_ rfl
  simp only [Try.ntmps24, List.size_toArray, List.length_cons, List.length_nil, Nat.reduceAdd, Nat.reduceSub, Array.replicate_succ, Array.replicate_zero, List.push_toArray, List.append_toArray, List.nil_append, List.cons_append]
  gi_wp2_with (refine ⟨trivial, ?_⟩; gi_at_call 56; refine (callsIn_wide.2 (sealed_at (some ⟨p, 0, none⟩) _)).mono ?_; rintro e w' ⟨rfl, rfl⟩)
  have b0 := (((Boxed.new w 33 (.pointer (some ⟨p, 0, none⟩))).alloc (.cells #[.slice none 0 0] 48)).alloc (.cells #[.pointer (some ⟨p, 0, none⟩)] 33)).alloc (.cells #[.int .i64 2] 3)
  have b1 := ((Boxed.new (w.alloc (.cells #[.pointer (some ⟨p, 0, none⟩)] 33)) 48 (.slice none 0 0)).alloc (.cells #[.pointer (some ⟨p, 0, none⟩)] 33)).alloc (.cells #[.int .i64 2] 3)
  have b2 := (Boxed.new ((w.alloc (.cells #[.pointer (some ⟨p, 0, none⟩)] 33)).alloc (.cells #[.slice none 0 0] 48)) 33 (.pointer (some ⟨p, 0, none⟩))).alloc (.cells #[.int .i64 2] 3)
  have b3 := Boxed.new (((w.alloc (.cells #[.pointer (some ⟨p, 0, none⟩)] 33)).alloc (.cells #[.slice none 0 0] 48)).alloc (.cells #[.pointer (some ⟨p, 0, none⟩)] 33)) 3 (.int .i64 2)
  have hK0 : Kept [V] w ((((w.alloc (.cells #[.pointer (some ⟨p, 0, none⟩)] 33)).alloc (.cells #[.slice none 0 0] 48)).alloc (.cells #[.pointer (some ⟨p, 0, none⟩)] 33)).alloc (.cells #[.int .i64 2] 3)) := ((((Kept.refl [V] w).alloc _).alloc _).alloc _).alloc _
  have hT0 := HT.out.keep ((((((Kept.refl [] w).alloc (.cells #[.pointer (some ⟨p, 0, none⟩)] 33)).alloc (.cells #[.slice none 0 0] 48)).alloc (.cells #[.pointer (some ⟨p, 0, none⟩)] 33)).alloc (.cells #[.int .i64 2] 3)))
  simp only [World.size_alloc, Nat.add_assoc, Nat.reduceAdd] at b1 b2 b3
  simp only [World.size_alloc, Nat.add_assoc, Nat.reduceAdd]
  refine range_all h1 (gf := 67) (lb := #[.pointer (some ⟨w.heap.size + 2, 0, none⟩), .pointer (some ⟨w.heap.size + 3, 0, none⟩)]) rfl (enters_of Try.func67 (by kernel_rfl) rfl) rfl
    (RelN w p V b s l r q rs) (fun pre x => ∃ k : Nat, ∃ y, x = (k : Int) ∧ rs[k]? = some y ∧ y.s = 2 ∧ (∀ z ∈ pre, z < (k : Int)) ∧ pre.length < rs.length) (inState rs 2 rs.length) (RelN.own w _ p V b s l r q rs (by simp only [World.size_alloc]; omega)) ?seq
    ⟨⟨hT0, hK0, b0, b2, b3⟩, _, b1, World.ownsRow_nil _ _ _ _, trivial⟩
    (fun x => { tmps := #[.pointer (some ⟨p, 0, none⟩), .pointer (some ⟨w.heap.size, 0, none⟩), .slice none 0 0, .pointer (some ⟨w.heap.size + 1, 0, none⟩), .int .i64 x, .pointer (some ⟨p, 0, none⟩), .func (.func 67) #[] #[.pointer (some ⟨w.heap.size + 2, 0, none⟩), .pointer (some ⟨w.heap.size + 3, 0, none⟩)], .int .i64 x, undef, undef, undef, undef, undef, undef, undef, undef, undef, undef, undef, undef, undef, undef, undef, undef, undef, undef, undef, undef], defers := [] }) ?assign ?body ?done
  case seq =>
    intro lp J hJ hJd hY W hW0
    refine (in1_any Fence.wide (n - 1) rfl lp (w.heap.size + 2) (w.heap.size + 3) p V b s l r q 2 rs J (fun _ _ => False) (fun pre W h => ?_) hJd (fun pre k x W h hx hs hl hlen => ?_) W hW0).mono ?_
    · obtain ⟨⟨ht, _, _, k2, k3⟩, _⟩ := hJ _ _ h
      exact ⟨k2.cell, k3.cell, relRows rs pre, relRows_len _ _, fun i hi => relRows_above rs pre i hi, ht⟩
    · exact (hY pre (k : Int) W h ⟨k, x, rfl, hx, hs, hl, hlen⟩).mono fun e W' h => .inl h
    · rintro e W' ⟨hv, (hj | ⟨_, _, hj⟩)⟩
      · exact ⟨hv, hj⟩
      · exact hj.elim
  case assign =>
    intro l x W K hK
    gi_wp2
    exact hK
  case body =>
    rintro lp pre x W ⟨⟨ht, hk, k0, k2, k3⟩, v, hv, hrow, _⟩ ⟨k, y, rfl, hy, hys, hpre, hlen⟩
    have hyr : (relRows rs pre)[k]? = some y := (relRows_above rs pre k hpre).trans hy
    have hlt : k < rs.length := (List.getElem?_eq_some_iff.1 hy).1
    have hl := relRows_len rs pre
    have c0 := k0.cell
    have c1 := ht.c1
    rw [hl] at c1
    have HTT := hide ht
    have HYR := hide hyr
    have HY := hide hy
    have HKK := hide hk
    have hR2 := relRows_snoc rs pre (k : Int)
    rw [upd_yes hyr] at hR2
    have hI2 := relIds_snoc rs pre (k : Int)
    rw [rowAt_yes hy] at hI2
    have hcap : (relIds rs pre).length ≤ 32 := by
      have : (relIds rs pre).length ≤ pre.length := List.length_filter_le _ _
      omega
    cases hdd : y.dead with
    | false =>
      rw [hdd] at hI2
      simp only [Bool.false_eq_true, if_false, List.append_nil] at hI2
      rw [show y.free = y by unfold Rw.free; rw [hdd]; rfl, set_same_row hyr] at hR2
      have HD := hide hdd
      have HR2 := hide hR2
      have HI2 := hide hI2
      clear ht hyr hy hk hR2 hI2 hdd hys
      gi_wp2_with (refine ⟨trivial, (by intro h; cases h), ?_⟩; gi_at_call 57; refine (CallsIn.inRound lp (callsIn_wide.2 (dead_any HTT.out k y HYR.out))).mono ?_; rintro e w' ⟨rfl, rfl⟩; rw [HD.out])
      exact ⟨KeepsFrom.refl _ _, trivial, by unfold RelN; rw [HR2.out, HI2.out]; exact ⟨⟨HTT.out, HKK.out, k0, k2, k3⟩, v, hv, hrow, trivial⟩⟩
    | true =>
      rw [hdd] at hI2
      simp only [if_true] at hI2
      rw [show y.free = ⟨0, y.t, y.n⟩ by unfold Rw.free; rw [hdd]; rfl] at hR2
      have hg : (⟨0, y.t, y.n⟩ : Rw).good := by
        obtain ⟨_, g2, g3⟩ := ht.at_good hyr
        exact ⟨by simp, g2, g3⟩
      have hT2 := ht.put (x := y) (y := ⟨0, y.t, y.n⟩) 0 (by omega) hyr hg 0 rfl
      rw [← hR2, Nat.add_zero] at hT2
      have f0 := ht.seg.frozen (k * 3)
      have d0 := (ht.cells hyr).1
      have hkk : Kept [V] W (W.setCell ⟨V, k * 3, none⟩ (.int .i64 0)) := (Kept.refl [V] W).set_ (.inl (by simp)) _ _
      have hkf : KeepsFrom (w.heap.size + 4) W (W.setCell ⟨V, k * 3, none⟩ (.int .i64 0)) := KeepsFrom.of_grownBy (set_grown W _ _) (fun j e => by cases e; show V < _; omega)
      obtain ⟨W2, hW2⟩ : ∃ W2, W.setCell ⟨V, k * 3, none⟩ (.int .i64 0) = W2 := ⟨_, rfl⟩
      rw [hW2] at hT2 hkk hkf
      have hs2 : w.heap.size + 4 ≤ W2.heap.size := Nat.le_trans (Nat.succ_le_of_lt k3.lt) hkk.size
      have k0' : Boxed W2 _ _ _ := hkk.blk (show Blk W _ _ _ from k0) (by simp; omega)
      have k2' : Boxed W2 _ _ _ := hkk.blk (show Blk W _ _ _ from k2) (by simp; omega)
      have k3' : Boxed W2 _ _ _ := hkk.blk (show Blk W _ _ _ from k3) (by simp; omega)
      obtain ⟨A, c, hvs, hAc⟩ : ∃ A c, v = .slice A (relIds rs pre).length c ∧ True := by
        obtain ⟨A, c, h, _⟩ := own_slice hrow
        exact ⟨A, c, h, trivial⟩
      subst hvs
      have hv2 : Boxed W2 _ _ _ := hkk.blk (show Blk W _ _ _ from hv) (by simp; omega)
      have hrow2 := owns.own_keep hrow hkk (fun i hi hm => by
        simp only [List.mem_singleton] at hi
        subst hi
        have := (owns.own_blk hrow i hm).1
        omega)
      have cv2 := hv2.cell
      have HKK2 := hide (HKK.out.trans hkk (by simp))
      have HD := hide hdd
      have HI2 := hide hI2
      have HT2 := hide hT2
      generalize hL : relIds rs pre = L at *
      clear ht hyr hy hk hR2 hI2 hdd hys hT2 hkk hg
      gi_wp2_with (first
        | (refine ⟨trivial, (by intro h; cases h), ?_⟩; gi_at_call 57; refine (CallsIn.inRound lp (callsIn_wide.2 (dead_any HTT.out k y HYR.out))).mono ?_; rintro e w' ⟨rfl, rfl⟩; rw [HD.out])
        | (gi_at_builtin; refine wpListIn_append_own _ rfl _ _ 48 rfl (w.heap.size + 4) 3 i0 (.int .i64 0) 1 8 Try.underlying48 hi hz0 hz1 hz2 rfl (by decide) _ _ _ rfl (hrow2.alloc _) ⟨W2.heap.size, 0, none⟩ 1 1 [.int .i64 k] rfl rfl (cell_one_new _ _ _) (by simp [Value.oneCell']) (by simp only [maxLen]; omega) (by omega) (by rw [World.size_alloc]; omega) ?_; intro v' w1 hown' hgrow _; obtain ⟨g', cap', rfl⟩ := ownsRow_succ hown'; obtain ⟨hv1, hv3, hr3, hk3, hb3, hkp3⟩ := own_append hv2 hrow2 (by omega) hown' hgrow; have hc1 := hv1.cell; have hf1 := hv1.frozen))
      have HT4 : TAt (w1.setCell ⟨w.heap.size + 1, 0, none⟩ (.slice (some ⟨g', 0, none⟩) (L.length + 1) cap')) p V b s l r q (relRows rs (pre ++ [(k : Int)])) := { HT2.out with tab := hb3 _ _ _ HT2.out.tab (by omega) (by omega), seg := hb3 _ _ _ HT2.out.seg (by omega) (by omega) }
      refine ⟨by simpa using hkf.trans (hk3.from _), trivial, ⟨HT4, hkp3 _ _ (by omega) HKK2.out, hb3 _ _ _ k0' (by omega) (by omega), hb3 _ _ _ k2' (by omega) (by omega), hb3 _ _ _ k3' (by omega) (by omega)⟩, _, hv3, ?_, trivial⟩
      rw [HI2.out, List.map_append, List.length_append]
      exact hr3
  case done =>
    rintro D W hD hNW hK
    have hD2 : w.heap.size ≤ D := by simp only [World.size_alloc] at hD; omega
    have hN2 := (RelN.own w w.heap.size p V b s l r q rs (Nat.le_refl _)).putObj (.deferred none) hNW hD2 hK rfl
    obtain ⟨⟨ht, hk, k0, k2, k3⟩, v, hv, hrow, _⟩ := hN2
    obtain ⟨_, v', hv', _⟩ := hNW
    have hc := hv'.cell
    rw [relRows_all] at ht
    rw [relIds_all] at hrow
    have hvv : v' = v := by
      have e1 := hv.cell
      have e2 := hv'.cell
      rw [World.cell?_of_block (World.putObj_heap_other (by simp only [World.size_alloc] at hD; simp; omega))] at e1
      rw [e1] at e2
      exact (Option.some.inj e2).symm
    subst hvv
    have HT2 := hide ht
    have HO2 := hide hrow
    have HK2 := hide hk
    clear ht hrow hk
    gi_wp2
    refine ⟨by simp, .inl ⟨_, _, rfl, run_takeDeferred hK, ?_⟩⟩
    exact ⟨_, results_tmp rfl _ _ _, v', rfl, owns.own_low HO2.out (by omega), HT2.out, HK2.out⟩

theorem release_any (p V : Nat) (b s l r q : Int) (rs : List Rw) (w : World) (hT : TAt w p V b s l r q rs) :
    Calls Try.prog 24 #[.pointer (some ⟨p, 0, none⟩)] w fun e W' => ∃ A c, e = .returned (.slice A (deadIds rs rs.length).length c) ∧ (∀ S : List Nat, (∀ i ∈ S, i < w.heap.size) → Vals W' S A ((deadIds rs rs.length).map I)) ∧ TAt W' p V b s l r q (rs.map Rw.free) ∧ Kept [V] w W' :=
  (callsIn_wide.1 (release_in 3 (Nat.le_refl _) p V b s l r q rs w hT)).mono fun _ _ ⟨v, he, ho, ht, hk⟩ => by
    obtain ⟨A, c, rfl, _, hv⟩ := owns.own_read ho
    exact ⟨A, c, he, fun S hS => hv S (fun i hi => .inl (hS i hi)), ht, hk⟩
end Go.Proofs.Ytjcnndnipnkhoaa.us
