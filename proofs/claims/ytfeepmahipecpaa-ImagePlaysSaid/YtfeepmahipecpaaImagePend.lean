/- pending gone through: the blocks that are not untouched, rising. -/
import Derived.Test.YtfeepmahipecpaaImageIter
import Derived.Test.YtfeepmahipecpaaFar
namespace Go.Proofs.Ytfeepmahipecpaa.im
set_option linter.unusedSimpArgs false
set_option linter.unusedVariables false
open Go.RowKit Go.Proofs.Ytfeepmahipecpaa.mem Go.Proofs.Ytfeepmahipecpaa.base Go.Proofs.Ytfeepmahipecpaa.pd Go.Proofs.Ytfeepmahipecpaa.owns
attribute [local go_sem] Oper.semAt_some

def unt (l : List (Nat × Int)) : List (Nat × Int) := l.filter fun x => x.2 != -1
def pendL (vs : List Int) : List (Nat × Int) := unt (placed vs vs.length)
theorem unt_yes {l : List (Nat × Int)} {x : Nat × Int} (h : (x.2 != -1) = true) : unt (l ++ [x]) = unt l ++ [x] := by unfold unt; rw [List.filter_append]; simp [List.filter_cons, h]
theorem unt_no {l : List (Nat × Int)} {x : Nat × Int} (h : (x.2 != -1) = false) : unt (l ++ [x]) = unt l := by unfold unt; rw [List.filter_append]; simp [List.filter_cons, h]
theorem unt_prefix {l m : List (Nat × Int)} (h : l <+: m) : unt l <+: unt m := h.filter _
theorem pendL_length (vs : List Int) : (pendL vs).length ≤ vs.length := by
  have := List.length_filter_le (fun x : Nat × Int => x.2 != -1) (placed vs vs.length)
  rwa [placed_length] at this
theorem placed_mem {vs : List Int} {k : Nat} {x : Nat × Int} (h : x ∈ placed vs k) : x.1 < k ∧ x.2 = vs.getD x.1 0 := by
  unfold placed at h
  rw [List.mem_map] at h
  obtain ⟨i, hi, rfl⟩ := h
  exact ⟨List.mem_range.1 hi, rfl⟩
theorem pendL_mem {vs : List Int} {x : Nat × Int} (h : x ∈ pendL vs) : x.1 < vs.length := (placed_mem (List.mem_filter.1 h).1).1

/-- What an iterator within an iterator keeps. -/
def InN {α β : Type} (f : List β → List α) (J : List α → List Nat → World → Prop) (C0 : List Nat) (W0 : World) (Bs : List (Nat × TypeId × Value)) (pre : List β) (C : List Nat) (W : World) : Prop :=
  J (f pre) C W ∧ (∀ y ∈ C, y ∈ C0 ∨ W0.heap.size ≤ y) ∧ Kept C0 W0 W ∧ ∀ b ∈ Bs, Blk W b.1 b.2.1 #[b.2.2] ∧ b.1 ∉ C
def InX {α β : Type} (l : List α) (Jx : List α → List Nat → World → Prop) (c : Code) (pre : List β) (C : List Nat) (W : World) : Prop := c = .ret ∧ ∃ p, p <+: l ∧ Jx p C W
section
variable {α β : Type} {f : List β → List α} {J Jx : List α → List Nat → World → Prop} {C0 : List Nat} {W0 : World} {Bs : List (Nat × TypeId × Value)} {z : Nat} {l : List α}
theorem InN.steady (hJ : Steady W0.heap.size J) (hz : W0.heap.size ≤ z) (hB : ∀ b ∈ Bs, b.1 < z) : Steady z (InN f J C0 W0 Bs) := by
  rintro pre C W W' S ⟨h1, h2, h3, h4⟩ k hS
  exact ⟨hJ _ _ _ _ S h1 k (fun y hy => ⟨by have := (hS y hy).1; omega, (hS y hy).2⟩), h2, h3.trans k (fun y hy => .inr (by have := (hS y hy).1; omega)), fun b hb => ⟨k.blk (h4 b hb).1 (fun hm => by have := (hS _ hm).1; have := hB b hb; omega), (h4 b hb).2⟩⟩
theorem InX.steady (hJ : Steady W0.heap.size Jx) (hz : W0.heap.size ≤ z) (c : Code) : Steady z (InX (β := β) l Jx c) := by
  rintro pre C W W' S ⟨h0, p, hp, h1⟩ k hS
  exact ⟨h0, p, hp, hJ _ _ _ _ S h1 k (fun y hy => ⟨by have := (hS y hy).1; omega, (hS y hy).2⟩)⟩
theorem InN.bound (hJ : Bound J) : Bound (InN f J C0 W0 Bs) := fun pre C W h => hJ _ _ _ h.1
theorem InN.next {pre pre' : List β} {C C' : List Nat} {W W' : World} (h : InN f J C0 W0 Bs pre C W) (hC : ∀ y ∈ C', y ∈ C ∨ W.heap.size ≤ y) (k : Kept C W W') (hj : J (f pre') C' W') : InN f J C0 W0 Bs pre' C' W' := by
  obtain ⟨h1, h2, h3, h4⟩ := h
  have hs := h3.size
  exact ⟨hj, fun y hy => (hC y hy).elim (h2 y) (fun h => .inr (by omega)), h3.trans k (fun y hy => h2 y hy), fun b hb => ⟨k.blk (h4 b hb).1 (h4 b hb).2, fun hm => (hC _ hm).elim (h4 b hb).2 (fun h => by have := (h4 b hb).1.lt; omega)⟩⟩
end

set_option maxRecDepth 100000 in
set_option maxHeartbeats 4000000 in
theorem pend_seq (w : World) (Bn : Nat) (X : Ib) (M : Im) (h : IAt w X M) (hb : Blk w Bn 24 #[.pointer (some ⟨X.m, 0, none⟩)]) :
    SeqT Try.prog 66 #[.pointer (some ⟨Bn, 0, none⟩)] two (pendL M.o.l) [Bn, X.m, X.q, X.U] w := by
  intro lp J Jx C0 W hk hJ hJx hB hR hY h0
  have HI := hide (h.keep hk)
  have HJ := hide hJ
  have HJX := hide hJx
  have HB := hide hB
  have HR := hide (show X.q ∉ C0 ∧ X.U ∉ C0 from ⟨hR _ (by simp), hR _ (by simp)⟩)
  have HY := hide hY
  have H0 := hide h0
  have cb : (W.alloc (.cells #[.func (.yield lp) #[] #[]] 72)).cell? ⟨Bn, 0, none⟩ = some (.pointer (some ⟨X.m, 0, none⟩)) := ((hk.blk hb (by simp)).alloc _).cell 0
  have HC0 := hide (hB _ _ _ h0)
  have HLT := hide (h.keep hk).lt
  clear h hk hJ hJx hB hR hY h0 hb
  refine wide_pos fun n h1 => ?_
  refine callsIn_of_wp_marks Try.func66 rfl trivial ?_ rfl
  simp only [Try.ntmps66, List.size_toArray, List.length_cons, List.length_nil, Nat.reduceAdd, Nat.reduceSub, Array.replicate_succ, Array.replicate_zero, List.push_toArray, List.append_toArray, List.nil_append, List.cons_append]
  obtain ⟨z, hz⟩ : ∃ z, W.heap.size = z := ⟨_, rfl⟩
  have HZ := hide hz
  gi_wp2_with (first
    | (refine ⟨trivial, ?_⟩; gi_at_call 36; refine (callsIn_wide.2 (table_over (HI.out.keep ((Kept.refl [] W).alloc _)))).mono ?_; rintro e w' ⟨rfl, rfl⟩)
    | (refine ⟨trivial, ?_⟩; gi_at_call 67; refine (callsIn_wide.2 (allOf_int _ _)).mono ?_; rintro e w' ⟨rfl, rfl⟩))
  have k1 : Kept [] W ((W.alloc (.cells #[.func (.yield lp) #[] #[]] 72)).alloc (.cells #[.pointer (some ⟨X.q, 0, none⟩)] 57)) := ((Kept.refl [] W).alloc _).alloc _
  have B0 := (Blk.new W 72 #[.func (.yield lp) #[] #[]]).alloc (.cells #[.pointer (some ⟨X.q, 0, none⟩)] 57)
  have B1 := Blk.new (W.alloc (.cells #[.func (.yield lp) #[] #[]] 72)) 57 #[.pointer (some ⟨X.q, 0, none⟩)]
  have hsA : ((W.alloc (.cells #[.func (.yield lp) #[] #[]] 72)).alloc (.cells #[.pointer (some ⟨X.q, 0, none⟩)] 57)).heap.size = z + 1 + 1 := by simp [hz]
  simp only [World.size_alloc] at B1
  rw [hz] at B0 B1
  generalize ((W.alloc (.cells #[.func (.yield lp) #[] #[]] 72)).alloc (.cells #[.pointer (some ⟨X.q, 0, none⟩)] 57)) = wA at k1 B0 B1 hsA ⊢
  have HK1 := hide k1
  have HB1 := hide B1
  have HBB := hide B0
  have HSA := hide hsA
  have HIA := hide (HI.out.keep k1)
  clear k1 B0 B1 hsA hz cb
  refine range_nest (w := wA) h1 (gf := 76) (lb := #[.pointer (some ⟨z + 1, 0, none⟩)]) rfl (enters_of Try.func76 (by kernel_rfl) rfl) two (fun _ => rfl) (placed M.o.l M.o.l.length) C0
    (InN unt J C0 W [(z, 72, .func (.yield lp) #[] #[])]) (InX (pendL M.o.l) Jx)
    (InN.steady HJ.out (by have := HSA.out; have := HZ.out; omega) (by have := HSA.out; simp; omega)) (InX.steady HJX.out (by have := HSA.out; have := HZ.out; omega)) (InN.bound HB.out) [z + 1, X.q, X.U] ?hR (all_seq wA (z + 1) X.q X.U X.E M.o HIA.out.over HB1.out) ?hC0 ?h0 ?hround ?hdone ?hstop
  case hR =>
    have h2 := HSA.out
    have h3 := HZ.out
    have h4 := HLT.out
    obtain ⟨m1, m2, m3, m4, m5, m6, m7⟩ := X.mem
    have h5 := h4 _ m5
    have h6 := h4 _ m6
    intro y hy
    simp at hy
    rcases hy with rfl | rfl | rfl
    · exact ⟨fun hm => by have := HC0.out _ hm; omega, by omega⟩
    · exact ⟨HR.out.1, by omega⟩
    · exact ⟨HR.out.2, by omega⟩
  case hC0 =>
    intro y hy
    have h1 := HC0.out y hy
    have h2 := HSA.out
    have h3 := HZ.out
    omega
  case h0 =>
    intro W1 hk hs
    have hkk := HK1.out.trans hk (S := []) (by simp)
    refine ⟨HJ.out _ _ _ _ [] H0.out hkk (by simp), fun y hy => .inl hy, hkk.mono (by simp), fun b hb => ?_⟩
    simp at hb
    subst hb
    exact ⟨hk.blk HBB.out (by simp), fun hm => by have := HC0.out _ hm; have := HZ.out; omega⟩
  case hround =>
    rintro lp2 pre C x W1 Kk hn hpre hD hD1 hWs hKK
    have HKK := hide hKK
    have HP := hide hpre
    clear hKK
    unfold two
    gi_wp2
    refine HKK.out _ _ (Kept.refl [] W1) ?_
    intro W2 hk2
    have hn2 := InN.steady HJ.out (z := wA.heap.size) (by have := HSA.out; have := HZ.out; omega) (by have := HSA.out; simp; omega) _ _ _ _ [wA.heap.size + 1] hn hk2 (by simp; exact hD1)
    have HN := hide hn2
    have cz : W2.cell? ⟨z, 0, none⟩ = some (.func (.yield lp) #[] #[]) := (hn2.2.2.2 (z, 72, .func (.yield lp) #[] #[]) (List.mem_singleton.2 rfl)).1.cell 0
    clear hn2 hn hk2 HKK hpre
    cases hx : (x.2 != -1) with
    | false =>
      have HU := hide (unt_no (l := pre) hx)
      gi_wp2
      refine ⟨fun _ h => (by cases h), ?_⟩
      gi_wp2
      exact ⟨C, fun y hy => .inl hy, Kept.refl _ _, by obtain ⟨g1, g2⟩ := HN.out; exact ⟨by rw [HU.out]; exact g1, g2⟩⟩
    | true =>
      have HU := hide (unt_yes (l := pre) hx)
      obtain ⟨fn, tmps, assign, body, hy, hR⟩ := yield_lv (m' := n - 1 - 1) (HY.out (unt pre) C W2 x HN.out.1 (by rw [← HU.out]; exact unt_prefix HP.out))
      unfold two at hy
      gi_wp2
      refine ⟨(by intro h; cases h), ?_⟩
      refine (round_rd hR).mono ?_
      rintro e W3 ⟨C', hc, hk, (⟨rfl, hj⟩ | ⟨rfl, hj⟩)⟩
      · have HC := hide hc
        have HK := hide hk
        have HJ3 := hide hj
        clear hc hk hj hR hy
        gi_wp2
        exact ⟨C', HC.out, HK.out, HN.out.next HC.out HK.out (by rw [HU.out]; exact HJ3.out)⟩
      · have HC := hide hc
        have HK := hide hk
        have HJ3 := hide hj
        clear hc hk hj hR hy
        gi_wp2
        exact ⟨C', HC.out, HK.out, rfl, _, by rw [← HU.out]; exact unt_prefix HP.out, HJ3.out⟩
  case hdone =>
    rintro D2 C W1 hD2 hn hDC hK
    have HN := hide hn
    clear hn
    gi_wp2
    refine ⟨by simp, .inl ⟨_, _, rfl, run_takeDeferred hK, ?_⟩⟩
    exact ⟨_, results_none rfl _ _ _, ⟨_, rfl⟩, C, .inl (HJ.out _ _ _ _ [D2] HN.out.1 (kept_putO _ _ _) (fun y hy => by have := HSA.out; have := HZ.out; simp at hy; subst hy; exact ⟨by omega, hDC⟩))⟩
  case hstop =>
    rintro D2 C c pre W1 hD2 hpl ⟨rfl, p, hp, hjx⟩ hDC hK
    have HN := hide hjx
    clear hjx
    gi_wp2
    refine ⟨by simp, .inl ⟨_, _, rfl, run_takeDeferred hK, ?_⟩⟩
    exact ⟨_, results_none rfl _ _ _, ⟨_, rfl⟩, C, .inr ⟨p, hp, HJX.out _ _ _ _ [D2] HN.out (kept_putO _ _ _) (fun y hy => by have := HSA.out; have := HZ.out; simp at hy; subst hy; exact ⟨by omega, hDC⟩)⟩⟩
end Go.Proofs.Ytfeepmahipecpaa.im
