/- lay: refs laid in a table, as an iterator tells them. -/
import Derived.Test.YtfeepmahipecpaaImageIter
import Derived.Test.YtfeepmahipecpaaFar
namespace Go.Proofs.Ytfeepmahipecpaa.im
set_option linter.unusedSimpArgs false
set_option linter.unusedVariables false
open Go.RowKit Go.Proofs.Ytfeepmahipecpaa.mem Go.Proofs.Ytfeepmahipecpaa.base Go.Proofs.Ytfeepmahipecpaa.pd Go.Proofs.Ytfeepmahipecpaa.owns
attribute [local go_sem] Oper.semAt_some

/-- What lay's rounds keep. -/
def LayN (w0 : World) (b0 bg p V D : Nat) (t : Tb) (pre : List (Nat × Int)) (C : List Nat) (W : World) : Prop :=
  ∃ v, C = bg :: V :: D :: v.ownBlock.toList ∧ Blk W b0 57 #[.pointer (some ⟨p, 0, none⟩)] ∧ RowB W bg (bg + 1) 29 3 1 v (t.lay pre).2.length ((t.lay pre).2.map I) ∧ ImT W p V D (t.lay pre).1 ∧ Kept [V, D] w0 W
theorem LayN.keep {w0 W W' : World} {b0 bg p V D : Nat} {t : Tb} {pre : List (Nat × Int)} {C S : List Nat} (h : LayN w0 b0 bg p V D t pre C W) (k : Kept S W W') (hS : ∀ y ∈ S, bg + 1 ≤ y ∧ y ∉ C) (hb : b0 < bg) (hp : p < bg) (hV : V < bg) (hD : D < bg) (h0 : w0.heap.size ≤ bg) : LayN w0 b0 bg p V D t pre C W' := by
  obtain ⟨v, rfl, h1, h2, h3, h4⟩ := h
  have hn : ∀ y, y ≤ bg → y ∉ S := fun y hy hm => by have := (hS y hm).1; omega
  exact ⟨v, rfl, k.blk h1 (hn _ (by omega)), h2.kept k (hn _ (by omega)) (fun y hy hm => (hS y hy).2 (by simp [hm])), h3.kept k (hn _ (by omega)) (hn _ (by omega)) (hn _ (by omega)), h4.trans k (fun y hy => .inr (by have := (hS y hy).1; omega))⟩

set_option maxRecDepth 100000 in
set_option maxHeartbeats 4000000 in
theorem lay_in (n : Nat) (h1 : 1 ≤ n) {w : World} {p V D : Nat} {t : Tb} (h : ImT w p V D t) (gf : Nat) (lb : Array Value) (R : List Nat) (xs : List (Nat × Int)) (eg : ∀ args w, (callFunc gf args).run Try.prog w = .ok (.enter gf args) w)
    (hseq : SeqT Try.prog gf lb two xs R w) (hR : ∀ y ∈ R, y ≠ V ∧ y ≠ D ∧ y < w.heap.size) (hx : ∀ x ∈ xs, x.1 < t.l.length) (hxl : xs.length ≤ 1000) :
    CallsIn Fence.wide n Try.prog 41 #[.pointer (some ⟨p, 0, none⟩), .func (.func gf) #[] lb] w fun e w' => ∃ v, e = .returned v ∧ w'.ownsRow w.heap.size 3 1 v (t.lay xs).2.length ((t.lay xs).2.map I) ∧ ImT w' p V D (t.lay xs).1 ∧ Kept [V, D] w w' := by
  obtain ⟨i0, hi, hz0, hz1, hz2⟩ := info_parts int_info
  have H := hide h
  have HSQ := hide hseq
  have HR := hide hR
  have HX := hide hx
  have HLT := hide (show p < w.heap.size ∧ V < w.heap.size ∧ D < w.heap.size from ⟨h.pl, h.Vl, h.Dl⟩)
  have HVD := hide h.VD
  clear h hseq hR hx
  refine callsIn_of_wp_marks Try.func41 rfl trivial ?_ rfl
  simp only [Try.ntmps41, List.size_toArray, List.length_cons, List.length_nil, Nat.reduceAdd, Nat.reduceSub, Array.replicate_succ, Array.replicate_zero, List.push_toArray, List.append_toArray, List.nil_append, List.cons_append]
  gi_wp2
  obtain ⟨b0, hb0⟩ : ∃ b0, w.heap.size = b0 := ⟨_, rfl⟩
  have k1 : Kept [] w ((w.alloc (.cells #[.pointer (some ⟨p, 0, none⟩)] 57)).alloc (.cells #[.slice none 0 0] 29)) := ((Kept.refl [] w).alloc _).alloc _
  have B0 := (Blk.new w 57 #[.pointer (some ⟨p, 0, none⟩)]).alloc (.cells #[.slice none 0 0] 29)
  have B1 := Blk.new (w.alloc (.cells #[.pointer (some ⟨p, 0, none⟩)] 57)) 29 #[.slice none 0 0]
  have hsA : ((w.alloc (.cells #[.pointer (some ⟨p, 0, none⟩)] 57)).alloc (.cells #[.slice none 0 0] 29)).heap.size = b0 + 1 + 1 := by simp [hb0]
  simp only [World.size_alloc] at B1
  rw [hb0] at B0 B1
  simp only [World.size_alloc, hb0]
  have HB0 := hide hb0
  generalize ((w.alloc (.cells #[.pointer (some ⟨p, 0, none⟩)] 57)).alloc (.cells #[.slice none 0 0] 29)) = wA at k1 B0 B1 hsA ⊢
  have HK1 := hide k1
  have HB1 := hide B1
  have HBB := hide B0
  have HSA := hide hsA
  have HSQ2 : Hid (SeqT Try.prog gf lb two xs R wA) := hide (fun lp J Jx C0 W hk => HSQ.out lp J Jx C0 W (HK1.out.trans hk (by simp)))
  clear k1 B0 B1 hsA hb0
  refine range_nest (w := wA) h1 (gf := gf) (lb := lb) rfl eg two (fun _ => rfl) xs ((b0 + 1) :: V :: D :: []) (LayN w b0 (b0 + 1) p V D t) (fun _ _ _ _ => False)
    ?hN (fun _ _ _ _ _ _ h _ _ => h) ?hC R ?hR HSQ2.out ?hC0 ?h0 ?hround ?hdone (fun _ _ _ _ _ _ _ h _ _ => h.elim)
  case hN =>
    intro pre C W W' S h k hS
    have h2 := HSA.out
    have h3 := HLT.out
    have h4 := HB0.out
    exact h.keep k (fun y hy => ⟨by have := (hS y hy).1; omega, (hS y hy).2⟩) (by omega) (by omega) (by omega) (by omega) (by omega)
  case hC =>
    rintro pre C W ⟨v, rfl, h1, h2, h3, h4⟩ y hy
    rcases List.mem_cons.1 hy with rfl | hy
    · exact h2.lts _ (by simp)
    rcases List.mem_cons.1 hy with rfl | hy
    · exact h3.Vl
    rcases List.mem_cons.1 hy with rfl | hy
    · exact h3.Dl
    · exact h2.lts y (by simp only [List.mem_cons]; exact .inr hy)
  case hR =>
    intro y hy
    obtain ⟨h1, h2, h3⟩ := HR.out y hy
    have h4 := HB0.out
    have h5 := HSA.out
    exact ⟨by simp; omega, by omega⟩
  case hC0 =>
    have h3 := HLT.out
    have h4 := HB0.out
    have h5 := HSA.out
    simp
    omega
  case h0 =>
    intro W hk hs
    exact ⟨.slice none 0 0, rfl, hk.blk HBB.out (by simp), ⟨hk.blk HB1.out (by simp), World.ownsRow_nil _ _ _ _, by omega⟩, (H.out.keep (HK1.out.trans hk (by simp))), ((HK1.out.trans hk (by simp)).mono (by simp))⟩
  case hround =>
    rintro lp pre C x W Kk hn hpre hD hD1 hWs hKK
    have HKK := hide hKK
    clear hKK
    unfold two
    gi_wp2
    refine HKK.out _ _ (Kept.refl [] W) ?_
    intro W2 hk2
    have hn2 : LayN w b0 (b0 + 1) p V D t pre C W2 := hn.keep hk2 (fun y hy => by have := HSA.out; simp at hy; subst hy; exact ⟨by omega, hD1⟩) (by omega) (by have := HLT.out; have := HB0.out; omega) (by have := HLT.out; have := HB0.out; omega) (by have := HLT.out; have := HB0.out; omega) (by have := HB0.out; omega)
    obtain ⟨v, rfl, hb, hrow, ht, hk0⟩ := hn2
    have HN := hide hb
    have HRW := hide hrow
    have HT := hide ht
    have HK0 := hide hk0
    have cb := hb.cell 0
    have hlt : x.1 < (t.lay pre).1.l.length := by
      rw [Tb.lay_len]
      exact HX.out x (hpre.subset (by simp))
    have HNX := hide (Tb.lay_snoc t pre x)
    have hlen : (t.lay pre).2.length ≤ 1000 := by
      have h1 := Tb.gone_len t pre
      have h2 := hpre.length_le
      simp at h2
      omega
    clear hb hrow ht hk0 hn hk2 hpre hD hD1 hWs HKK
    have hS3 : ∀ y ∈ (b0 + 1) :: V :: D :: v.ownBlock.toList, y ∈ (b0 + 1) :: V :: D :: v.ownBlock.toList ∨ W2.heap.size ≤ y := fun y hy => .inl hy
    have HF3 := hide (show b0 + 1 ∉ [V, D] ∧ (∀ y ∈ [V, D], y ∉ v.ownBlock.toList) ∧ b0 ∉ [V, D] from by
      have h3 := HLT.out
      have h4 := HB0.out
      refine ⟨by simp; omega, fun y hy hm => ?_, by simp; omega⟩
      have h1 := HRW.out.base_le y hm
      simp at hy
      omega)
    have HSZ := hide (show b0 + 1 + 1 ≤ W2.heap.size from HRW.out.box.lt)
    by_cases hw : (t.lay pre).1.went x.1 x.2 = 0
    · have HW := hide hw
      have HST : Hid (t.lay (pre ++ [x]) = ((t.lay pre).1.swap x.1 x.2, (t.lay pre).2)) := hide (by rw [HNX.out]; unfold Tb.step; rw [if_pos HW.out])
      have hw2 : ((t.lay pre).1.went x.1 x.2 != 0) = false := by rw [bne_eq_false_iff_eq]; exact hw
      clear hw
      gi_wp2_with (refine ⟨trivial, (by intro h; cases h), ?_⟩; gi_at_call 65; refine (calls_rd (swap_any HT.out x.1 hlt x.2)).mono ?_; rintro e W3 ⟨rfl, ht3, hk3⟩; have HT3 := hide ht3; have HK3 := hide hk3; have HRW3 := hide (HRW.out.kept hk3 HF3.out.1 HF3.out.2.1); have HBB3 := hide (hk3.blk HN.out HF3.out.2.2); have hb3 := hk3.size; have cr := HRW3.out.box.cell 0; clear ht3 hk3)
      exact ⟨_, hS3, HK3.out.mono (fun y hy => .inl (by simp at hy ⊢; rcases hy with h | h <;> simp [h])), v, rfl, HBB3.out, by rw [HST.out]; exact HRW3.out, by rw [HST.out]; exact HT3.out, HK0.out.trans HK3.out (fun y hy => .inl hy)⟩
    · have HW := hide hw
      have HST : Hid (t.lay (pre ++ [x]) = ((t.lay pre).1.swap x.1 x.2, (t.lay pre).2 ++ [(t.lay pre).1.went x.1 x.2])) := hide (by rw [HNX.out]; unfold Tb.step; rw [if_neg HW.out])
      have hw2 : ((t.lay pre).1.went x.1 x.2 != 0) = true := by rw [bne_iff_ne]; exact hw
      clear hw
      obtain ⟨A1, cc, hvs, _, _⟩ := own_read HRW.out.own
      subst hvs
      gi_wp2_with (first | (refine ⟨trivial, (by intro h; cases h), ?_⟩; gi_at_call 65; refine (calls_rd (swap_any HT.out x.1 hlt x.2)).mono ?_; rintro e W3 ⟨rfl, ht3, hk3⟩; have HT3 := hide ht3; have HK3 := hide hk3; have HRW3 := hide (HRW.out.kept hk3 HF3.out.1 HF3.out.2.1); have HBB3 := hide (hk3.blk HN.out HF3.out.2.2); have hb3 := hk3.size; have cr := HRW3.out.box.cell 0; have hsz : b0 + 1 + 1 ≤ W3.heap.size := Nat.le_trans HSZ.out hb3; clear ht3 hk3) | (gi_at_builtin; refine wpListIn_app rfl _ _ 29 rfl (b0 + 1 + 1) 3 i0 (.int .i64 0) 1 8 Try.underlying29 hi hz0 hz1 hz2 rfl (by decide) _ _ _ rfl (own_keep HRW3.out.own ((Kept.refl [] W3).alloc _) (by simp)) [] (some ⟨W3.heap.size, 0, none⟩) 1 1 [.int .i64 ((t.lay pre).1.went x.1 x.2)] rfl rfl (Vals.lit W3 [] _ _ _ _ rfl (by simp)) (by simp [Value.oneCell']) (by simp only [maxLen]; omega) (by omega) (by rw [World.size_alloc]; omega) ?_; intro v' w1 hown1 hk1 hat1; have hmid := HRW3.out.mid ((Kept.refl [] W3).alloc (.cells #[.int .i64 ((t.lay pre).1.went x.1 x.2)] 3)) hk1; have HGR := hide (HRW3.out.grown ((Kept.refl [] W3).alloc (.cells #[.int .i64 ((t.lay pre).1.went x.1 x.2)] 3)) hk1 hown1 hat1); have HK4 := hide (((Kept.refl [] W3).alloc (.cells #[.int .i64 ((t.lay pre).1.went x.1 x.2)] 3)).mono (S' := (Value.slice A1 (t.lay pre).2.length cc).ownBlock.toList) (by simp) |>.trans hk1 (fun i hi => .inl hi)); obtain ⟨g', cap', rfl⟩ := ownsRow_succ hown1; have hc61 := hmid.cell 0; have hf61 := hmid.frozen 0; clear hown1 hk1 hat1 hmid))
      obtain ⟨g1, g2, g3⟩ := HGR.out
      have hlo := HRW3.out.base_le
      have hlb := HLT.out
      have h4 := HB0.out
      have hnn : ∀ y, y ≤ b0 → y ∉ (b0 + 1) :: (Value.slice A1 (t.lay pre).2.length cc).ownBlock.toList := fun y hy hm => by
        rcases List.mem_cons.1 hm with h | h
        · omega
        · have := hlo y h; omega
      refine ⟨(b0 + 1) :: V :: D :: (Value.slice (some ⟨g', 0, none⟩) ((t.lay pre).2.length + 1) cap').ownBlock.toList, fun y hy => ?_, (HK3.out.mono (fun y hy => .inl (by simp at hy ⊢; rcases hy with h | h <;> simp [h]))).trans g2 (fun y hy => .inl ?_), _, rfl, g2.blk HBB3.out (hnn _ (by omega)), ?_, ?_, (HK0.out.trans HK3.out (fun y hy => .inl hy)).trans g2 (fun y hy => .inr ?_)⟩
      · rcases List.mem_cons.1 hy with h | hy
        · exact .inl (by simp [h])
        rcases List.mem_cons.1 hy with h | hy
        · exact .inl (by simp [h])
        rcases List.mem_cons.1 hy with h | hy
        · exact .inl (by simp [h])
        refine (g3 y (by simp only [List.mem_cons]; exact .inr hy)).imp (fun h => ?_) (fun h => by omega)
        rcases List.mem_cons.1 h with h | h
        · simp [h]
        · simp only [List.mem_cons]; exact .inr (.inr (.inr h))
      · rcases List.mem_cons.1 hy with h | h
        · simp [h]
        · simp only [List.mem_cons]; exact .inr (.inr (.inr h))
      · rw [HST.out, List.map_append, List.length_append]
        exact g1
      · rw [HST.out]
        exact HT3.out.kept g2 (hnn _ (by omega)) (hnn _ (by omega)) (hnn _ (by omega))
      · rcases List.mem_cons.1 hy with h | h
        · omega
        · have := hlo y h; omega
  case hdone =>
    rintro D2 C W hD2 ⟨v, rfl, hb, hrow, ht, hk0⟩ hDC hK
    have cr := hrow.box.cell 0
    have HRW := hide hrow
    have HT := hide ht
    have HK0 := hide hk0
    clear hb hrow ht hk0
    gi_wp2
    refine ⟨by simp, .inl ⟨_, _, rfl, run_takeDeferred hK, ?_⟩⟩
    have hkp : Kept [D2] W (W.putObj D2 (.deferred none)) := kept_putO _ _ _
    have hlb := HLT.out
    have h4 := HB0.out
    have h5 := HSA.out
    refine ⟨_, results_tmp rfl _ _ _, v, rfl, own_low (own_keep HRW.out.own hkp (fun i hi hm => ?_)) (by omega), HT.out.kept hkp (by simp; omega) (by simp; omega) (by simp; omega), HK0.out.trans hkp (fun y hy => .inr (by simp at hy; omega))⟩
    simp at hi
    subst hi
    exact hDC (by simp [hm])

theorem lay_any {w : World} {p V D : Nat} {t : Tb} (h : ImT w p V D t) (gf : Nat) (lb : Array Value) (R : List Nat) (xs : List (Nat × Int)) (eg : ∀ args w, (callFunc gf args).run Try.prog w = .ok (.enter gf args) w)
    (hseq : SeqT Try.prog gf lb two xs R w) (hR : ∀ y ∈ R, y ≠ V ∧ y ≠ D ∧ y < w.heap.size) (hx : ∀ x ∈ xs, x.1 < t.l.length) (hxl : xs.length ≤ 1000) :
    Calls Try.prog 41 #[.pointer (some ⟨p, 0, none⟩), .func (.func gf) #[] lb] w fun e w' => ∃ v, e = .returned v ∧ w'.ownsRow w.heap.size 3 1 v (t.lay xs).2.length ((t.lay xs).2.map I) ∧ ImT w' p V D (t.lay xs).1 ∧ Kept [V, D] w w' :=
  callsIn_wide.1 (lay_in 3 (by decide) h gf lb R xs eg hseq hR hx hxl)
end Go.Proofs.Ytfeepmahipecpaa.im
