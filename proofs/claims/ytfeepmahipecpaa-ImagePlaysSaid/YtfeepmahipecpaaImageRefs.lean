/- Refs gone through: each block's refs, rising. -/
import Derived.Test.YtfeepmahipecpaaImagePend
namespace Go.Proofs.Ytfeepmahipecpaa.im
set_option linter.unusedSimpArgs false
set_option linter.unusedVariables false
open Go.RowKit Go.Proofs.Ytfeepmahipecpaa.mem Go.Proofs.Ytfeepmahipecpaa.base Go.Proofs.Ytfeepmahipecpaa.pd Go.Proofs.Ytfeepmahipecpaa.owns
attribute [local go_sem] Oper.semAt_some

def rfOf (os : List Int) (x : Nat × Int) : List (Nat × Int) := (if decide (x.2 > 0) then [x] else []) ++ (if decide (os.getD x.1 0 > 0) then [(x.1, os.getD x.1 0)] else [])
def rf (os : List Int) (pre : List (Nat × Int)) : List (Nat × Int) := pre.flatMap (rfOf os)
def refsL (M : Im) : List (Nat × Int) := rf M.o.l (placed M.b.l M.b.l.length)
section
variable {os : List Int} {pre l : List (Nat × Int)} {x : Nat × Int}
theorem rf_snoc : rf os (pre ++ [x]) = rf os pre ++ rfOf os x := by simp [rf]
theorem rf_yy (h : decide (x.2 > 0) = true) (k : decide (os.getD x.1 0 > 0) = true) : rf os (pre ++ [x]) = rf os pre ++ [x] ++ [(x.1, os.getD x.1 0)] := by rw [rf_snoc]; unfold rfOf; rw [if_pos h, if_pos k]; simp
theorem rf_yn (h : decide (x.2 > 0) = true) (k : decide (os.getD x.1 0 > 0) = false) : rf os (pre ++ [x]) = rf os pre ++ [x] := by rw [rf_snoc]; unfold rfOf; rw [if_pos h, if_neg (by rw [k]; simp)]; simp
theorem rf_ny (h : decide (x.2 > 0) = false) (k : decide (os.getD x.1 0 > 0) = true) : rf os (pre ++ [x]) = rf os pre ++ [(x.1, os.getD x.1 0)] := by rw [rf_snoc]; unfold rfOf; rw [if_neg (by rw [h]; simp), if_pos k]; simp
theorem rf_nn (h : decide (x.2 > 0) = false) (k : decide (os.getD x.1 0 > 0) = false) : rf os (pre ++ [x]) = rf os pre := by rw [rf_snoc]; unfold rfOf; rw [if_neg (by rw [h]; simp), if_neg (by rw [k]; simp)]; simp
theorem rf_prefix (h : l <+: pre) : rf os l <+: rf os pre := by
  obtain ⟨m, rfl⟩ := h
  unfold rf
  rw [List.flatMap_append]
  exact List.prefix_append _ _
theorem rf_mid (hp : rf os (pre ++ [x]) <+: l) (h : decide (x.2 > 0) = true) : rf os pre ++ [x] <+: l := by
  rw [rf_snoc] at hp
  unfold rfOf at hp
  rw [if_pos h, ← List.append_assoc] at hp
  exact (List.prefix_append _ _).trans hp
end
theorem inN_mid {α β : Type} {f : List β → List α} {J : List α → List Nat → World → Prop} {C0 : List Nat} {W0 : World} {Bs : List (Nat × TypeId × Value)} {pre : List β} {C C' : List Nat} {W W' : World} {a : List α} (h : InN f J C0 W0 Bs pre C W) (hC : ∀ y ∈ C', y ∈ C ∨ W.heap.size ≤ y) (k : Kept C W W') (hj : J a C' W') : InN (fun _ => a) J C0 W0 Bs pre C' W' := by
  obtain ⟨h1, h2, h3, h4⟩ := h
  have hs := h3.size
  exact ⟨hj, fun y hy => (hC y hy).elim (h2 y) (fun h => .inr (by omega)), h3.trans k (fun y hy => h2 y hy), fun b hb => ⟨k.blk (h4 b hb).1 (h4 b hb).2, fun hm => (hC _ hm).elim (h4 b hb).2 (fun h => by have := (h4 b hb).1.lt; omega)⟩⟩
theorem inN_as {α β : Type} {f g : List β → List α} {J : List α → List Nat → World → Prop} {C0 : List Nat} {W0 : World} {Bs : List (Nat × TypeId × Value)} {pre pre' : List β} {C : List Nat} {W : World} (h : InN f J C0 W0 Bs pre C W) (he : g pre' = f pre) : InN g J C0 W0 Bs pre' C W := ⟨by rw [he]; exact h.1, h.2⟩

set_option maxRecDepth 100000 in
set_option maxHeartbeats 4000000 in
theorem refs_seq (w : World) (Bn : Nat) (X : Ib) (M : Im) (h : IAt w X M) (hb : Blk w Bn 24 #[.pointer (some ⟨X.m, 0, none⟩)]) :
    SeqT Try.prog 73 #[.pointer (some ⟨Bn, 0, none⟩)] two (refsL M) (Bn :: X.all) w := by
  intro lp J Jx C0 W hk hJ hJx hB hR hY h0
  have HI := hide (h.keep hk)
  have HJ := hide hJ
  have HJX := hide hJx
  have HB := hide hB
  have HR := hide (show ∀ y ∈ X.all, y ∉ C0 from fun y hy => hR y (by simp [hy]))
  have HY := hide hY
  have H0 := hide h0
  have cb : (W.alloc (.cells #[.func (.yield lp) #[] #[]] 72)).cell? ⟨Bn, 0, none⟩ = some (.pointer (some ⟨X.m, 0, none⟩)) := ((hk.blk hb (by simp)).alloc _).cell 0
  have cb2 : ((W.alloc (.cells #[.func (.yield lp) #[] #[]] 72)).alloc (.cells #[.pointer (some ⟨X.q, 0, none⟩)] 57)).cell? ⟨Bn, 0, none⟩ = some (.pointer (some ⟨X.m, 0, none⟩)) := (((hk.blk hb (by simp)).alloc _).alloc _).cell 0
  have HC0 := hide (hB _ _ _ h0)
  have HLT := hide (h.keep hk).lt
  clear h hk hJ hJx hB hR hY h0 hb
  refine wide_pos fun n h1 => ?_
  refine callsIn_of_wp_marks Try.func73 rfl trivial ?_ rfl
  simp only [Try.ntmps73, List.size_toArray, List.length_cons, List.length_nil, Nat.reduceAdd, Nat.reduceSub, Array.replicate_succ, Array.replicate_zero, List.push_toArray, List.append_toArray, List.nil_append, List.cons_append]
  obtain ⟨z, hz⟩ : ∃ z, W.heap.size = z := ⟨_, rfl⟩
  have HZ := hide hz
  gi_wp2_with fail
  refine ⟨trivial, ?_⟩
  refine (callsIn_wide.2 (table_over (HI.out.keep ((Kept.refl [] W).alloc _)))).mono ?_
  rintro e w' ⟨rfl, rfl⟩
  gi_wp2_with fail
  refine ⟨trivial, ?_⟩
  refine (callsIn_wide.2 (table_base (HI.out.keep (((Kept.refl [] W).alloc _).alloc _)))).mono ?_
  rintro e w' ⟨rfl, rfl⟩
  gi_wp2_with fail
  refine ⟨trivial, ?_⟩
  refine (callsIn_wide.2 (allOf_int _ _)).mono ?_
  rintro e w' ⟨rfl, rfl⟩
  gi_wp2_with fail
  have k1 : Kept [] W (((W.alloc (.cells #[.func (.yield lp) #[] #[]] 72)).alloc (.cells #[.pointer (some ⟨X.q, 0, none⟩)] 57)).alloc (.cells #[.pointer (some ⟨X.p, 0, none⟩)] 57)) := (((Kept.refl [] W).alloc _).alloc _).alloc _
  have B0 := ((Blk.new W 72 #[.func (.yield lp) #[] #[]]).alloc (.cells #[.pointer (some ⟨X.q, 0, none⟩)] 57)).alloc (.cells #[.pointer (some ⟨X.p, 0, none⟩)] 57)
  have B1 := (Blk.new (W.alloc (.cells #[.func (.yield lp) #[] #[]] 72)) 57 #[.pointer (some ⟨X.q, 0, none⟩)]).alloc (.cells #[.pointer (some ⟨X.p, 0, none⟩)] 57)
  have B2 := Blk.new ((W.alloc (.cells #[.func (.yield lp) #[] #[]] 72)).alloc (.cells #[.pointer (some ⟨X.q, 0, none⟩)] 57)) 57 #[.pointer (some ⟨X.p, 0, none⟩)]
  have hsA : (((W.alloc (.cells #[.func (.yield lp) #[] #[]] 72)).alloc (.cells #[.pointer (some ⟨X.q, 0, none⟩)] 57)).alloc (.cells #[.pointer (some ⟨X.p, 0, none⟩)] 57)).heap.size = z + 1 + 1 + 1 := by simp [hz]
  simp only [World.size_alloc] at B1 B2
  rw [hz] at B0 B1 B2
  try simp only [World.size_alloc, hz]
  generalize (((W.alloc (.cells #[.func (.yield lp) #[] #[]] 72)).alloc (.cells #[.pointer (some ⟨X.q, 0, none⟩)] 57)).alloc (.cells #[.pointer (some ⟨X.p, 0, none⟩)] 57)) = wA at k1 B0 B1 B2 hsA ⊢
  have HK1 := hide k1
  have HB1 := hide B1
  have HBB := hide B0
  have HB2 := hide B2
  have HSA := hide hsA
  have HIA := hide (HI.out.keep k1)
  have HML := hide HI.out.len
  clear k1 B0 B1 B2 hsA hz cb cb2
  refine range_nest (w := wA) h1 (gf := 76) (lb := #[.pointer (some ⟨z + 1 + 1, 0, none⟩)]) rfl (enters_of Try.func76 (by kernel_rfl) rfl) two (fun _ => rfl) (placed M.b.l M.b.l.length) C0
    (InN (rf M.o.l) J C0 W [(z, 72, .func (.yield lp) #[] #[]), (z + 1, 57, .pointer (some ⟨X.q, 0, none⟩))]) (InX (refsL M) Jx)
    (InN.steady HJ.out (by have := HSA.out; have := HZ.out; omega) (by have := HSA.out; simp; omega)) (InX.steady HJX.out (by have := HSA.out; have := HZ.out; omega)) (InN.bound HB.out) [z + 1 + 1, X.p, X.V] ?hR (all_seq wA (z + 1 + 1) X.p X.V X.D M.b HIA.out.base HB2.out) ?hC0 ?h0 ?hround ?hdone ?hstop
  case hR =>
    have h2 := HSA.out
    have h3 := HZ.out
    have h4 := HLT.out
    obtain ⟨m1, m2, m3, m4, m5, m6, m7⟩ := X.mem
    have h5 := h4 _ m2
    have h6 := h4 _ m3
    intro y hy
    simp at hy
    rcases hy with rfl | rfl | rfl
    · exact ⟨fun hm => by have := HC0.out _ hm; omega, by omega⟩
    · exact ⟨HR.out _ m2, by omega⟩
    · exact ⟨HR.out _ m3, by omega⟩
  case hC0 =>
    intro y hy
    have h1 := HC0.out y hy
    have h2 := HSA.out
    have h3 := HZ.out
    omega
  case h0 =>
    intro W1 hk hs
    have hkk := HK1.out.trans hk (S := []) (by simp)
    refine ⟨HJ.out _ _ _ _ [] H0.out hkk (by simp), fun y hy => .inl hy, hkk.mono (by simp), fun b hb => ?_⟩
    simp at hb
    rcases hb with rfl | rfl
    · exact ⟨hk.blk HBB.out (by simp), fun hm => by have := HC0.out _ hm; have := HZ.out; omega⟩
    · exact ⟨hk.blk HB1.out (by simp), fun hm => by have := HC0.out _ hm; have := HZ.out; omega⟩
  case hround =>
    rintro lp2 pre C x W1 Kk hn hpre hD hD1 hWs hKK
    have HKK := hide hKK
    have HP := hide hpre
    have HPF := hide (show rf M.o.l (pre ++ [x]) <+: refsL M from rf_prefix hpre)
    have HOV := hide (show ∀ W3, Kept C0 W W3 → ImT W3 X.q X.U X.E M.o from fun W3 k => by
      obtain ⟨m1, m2, m3, m4, m5, m6, m7⟩ := X.mem
      exact HI.out.over.kept k (HR.out _ m5) (HR.out _ m6) (HR.out _ m7))
    obtain ⟨o, hoe⟩ : ∃ o, M.o.l.getD x.1 0 = o := ⟨_, rfl⟩
    have HOE := hide hoe
    have HGX := hide (show M.o.l[x.1]? = some o from by
      rw [← hoe]
      have h1 := (placed_mem (hpre.subset (List.mem_append_right pre (List.mem_singleton.2 rfl)))).1
      have h2 := HML.out
      have h3 : x.1 < M.o.l.length := by omega
      rw [List.getD_eq_getElem?_getD, List.getElem?_eq_getElem h3]
      rfl)
    clear hKK hoe
    unfold two
    gi_wp2
    refine HKK.out _ _ (Kept.refl [] W1) ?_
    intro W2 hk2
    have hn2 := InN.steady HJ.out (z := wA.heap.size) (by have := HSA.out; have := HZ.out; omega) (by have := HSA.out; simp; omega) _ _ _ _ [wA.heap.size + 1] hn hk2 (by simp; exact hD1)
    have HN := hide hn2
    have cz : W2.cell? ⟨z, 0, none⟩ = some (.func (.yield lp) #[] #[]) := (hn2.2.2.2 (z, 72, .func (.yield lp) #[] #[]) (by simp)).1.cell 0
    have cq : W2.cell? ⟨z + 1, 0, none⟩ = some (.pointer (some ⟨X.q, 0, none⟩)) := (hn2.2.2.2 (z + 1, 57, .pointer (some ⟨X.q, 0, none⟩)) (by simp)).1.cell 0
    clear hn2 hn hk2 HKK hpre
    cases hx : decide (x.2 > 0) with
    | false =>
      cases ho : decide (o > 0) with
      | false =>
        have HU := hide (show rf M.o.l (pre ++ [x]) = rf M.o.l pre from rf_nn hx (by rw [HOE.out]; exact ho))
        gi_wp2
        try refine ⟨fun _ h => (by cases h), ?_⟩
        gi_wp2_with fail
        refine ⟨trivial, (by intro h; cases h), ?_⟩
        refine (calls_rd (get_int_at (HOV.out W2 HN.out.2.2.1) x.1 x.1 rfl _ HGX.out)).mono ?_
        rintro e w' ⟨rfl, rfl⟩
        gi_wp2
        try refine ⟨fun _ h => (by cases h), ?_⟩
        gi_wp2
        exact ⟨C, (fun y hy => .inl hy), (Kept.refl _ _), inN_as HN.out (by rw [HU.out])⟩
      | true =>
        have HU := hide (show rf M.o.l (pre ++ [x]) = rf M.o.l pre ++ [(x.1, o)] from by rw [← HOE.out]; exact rf_ny hx (by rw [HOE.out]; exact ho))
        gi_wp2
        try refine ⟨fun _ h => (by cases h), ?_⟩
        gi_wp2_with fail
        refine ⟨trivial, (by intro h; cases h), ?_⟩
        refine (calls_rd (get_int_at (HOV.out W2 HN.out.2.2.1) x.1 x.1 rfl _ HGX.out)).mono ?_
        rintro e w' ⟨rfl, rfl⟩
        obtain ⟨fn, tmps, assign, body, hy, hR⟩ := yield_lv (m' := n - 1 - 1) (HY.out (rf M.o.l pre) C W2 (x.1, o) HN.out.1 (by rw [← HU.out]; exact HPF.out))
        unfold two at hy
        dsimp only at hy
        gi_wp2
        refine ⟨(by intro h; cases h), ?_⟩
        refine (round_rd hR).mono ?_
        rintro e W4 ⟨C4, hc, hk, (⟨rfl, hj⟩ | ⟨rfl, hj⟩)⟩
        · have HC4 := hide hc
          have HK4 := hide hk
          have HJ4 := hide hj
          clear hc hk hj hR hy
          gi_wp2
          exact ⟨C4, HC4.out, HK4.out, HN.out.next HC4.out HK4.out (by rw [HU.out]; exact HJ4.out)⟩
        · have HC4 := hide hc
          have HK4 := hide hk
          have HJ4 := hide hj
          clear hc hk hj hR hy
          gi_wp2
          exact ⟨C4, HC4.out, HK4.out, rfl, _, by rw [← HU.out]; exact HPF.out, HJ4.out⟩
    | true =>
      cases ho : decide (o > 0) with
      | false =>
        have HU := hide (show rf M.o.l (pre ++ [x]) = rf M.o.l pre ++ [x] from rf_yn hx (by rw [HOE.out]; exact ho))
        obtain ⟨fn, tmps, assign, body, hy, hR⟩ := yield_lv (m' := n - 1 - 1) (HY.out (rf M.o.l pre) C W2 x HN.out.1 (rf_mid HPF.out hx))
        unfold two at hy
        gi_wp2
        refine ⟨(by intro h; cases h), ?_⟩
        refine (round_rd hR).mono ?_
        rintro e W3 ⟨C3, hc, hk, (⟨rfl, hj⟩ | ⟨rfl, hj⟩)⟩
        rotate_left
        · have HC := hide hc
          have HK := hide hk
          have HJ3 := hide hj
          clear hc hk hj hR hy
          gi_wp2
          exact ⟨C3, HC.out, HK.out, rfl, _, rf_mid HPF.out hx, HJ3.out⟩
        have HC := hide hc
        have HK := hide hk
        have HJ3 := hide hj
        have HN3 := hide (inN_mid HN.out hc hk hj)
        have cz3 : W3.cell? ⟨z, 0, none⟩ = some (.func (.yield lp) #[] #[]) := (HN3.out.2.2.2 (z, 72, .func (.yield lp) #[] #[]) (by simp)).1.cell 0
        have cq3 : W3.cell? ⟨z + 1, 0, none⟩ = some (.pointer (some ⟨X.q, 0, none⟩)) := (HN3.out.2.2.2 (z + 1, 57, .pointer (some ⟨X.q, 0, none⟩)) (by simp)).1.cell 0
        clear hc hk hj hR hy
        gi_wp2_with fail
        refine ⟨trivial, (by intro h; cases h), ?_⟩
        refine (calls_rd (get_int_at (HOV.out W3 HN3.out.2.2.1) x.1 x.1 rfl _ HGX.out)).mono ?_
        rintro e w' ⟨rfl, rfl⟩
        gi_wp2
        try refine ⟨fun _ h => (by cases h), ?_⟩
        gi_wp2
        exact ⟨C3, HC.out, HK.out, inN_as HN3.out (by rw [HU.out])⟩
      | true =>
        have HU := hide (show rf M.o.l (pre ++ [x]) = rf M.o.l pre ++ [x] ++ [(x.1, o)] from by rw [← HOE.out]; exact rf_yy hx (by rw [HOE.out]; exact ho))
        obtain ⟨fn, tmps, assign, body, hy, hR⟩ := yield_lv (m' := n - 1 - 1) (HY.out (rf M.o.l pre) C W2 x HN.out.1 (rf_mid HPF.out hx))
        unfold two at hy
        gi_wp2
        refine ⟨(by intro h; cases h), ?_⟩
        refine (round_rd hR).mono ?_
        rintro e W3 ⟨C3, hc, hk, (⟨rfl, hj⟩ | ⟨rfl, hj⟩)⟩
        rotate_left
        · have HC := hide hc
          have HK := hide hk
          have HJ3 := hide hj
          clear hc hk hj hR hy
          gi_wp2
          exact ⟨C3, HC.out, HK.out, rfl, _, rf_mid HPF.out hx, HJ3.out⟩
        have HC := hide hc
        have HK := hide hk
        have HJ3 := hide hj
        have HN3 := hide (inN_mid HN.out hc hk hj)
        have cz3 : W3.cell? ⟨z, 0, none⟩ = some (.func (.yield lp) #[] #[]) := (HN3.out.2.2.2 (z, 72, .func (.yield lp) #[] #[]) (by simp)).1.cell 0
        have cq3 : W3.cell? ⟨z + 1, 0, none⟩ = some (.pointer (some ⟨X.q, 0, none⟩)) := (HN3.out.2.2.2 (z + 1, 57, .pointer (some ⟨X.q, 0, none⟩)) (by simp)).1.cell 0
        clear hc hk hj hR hy
        gi_wp2_with fail
        refine ⟨trivial, (by intro h; cases h), ?_⟩
        refine (calls_rd (get_int_at (HOV.out W3 HN3.out.2.2.1) x.1 x.1 rfl _ HGX.out)).mono ?_
        rintro e w' ⟨rfl, rfl⟩
        obtain ⟨fn, tmps, assign, body, hy, hR⟩ := yield_lv (m' := n - 1 - 1) (HY.out (rf M.o.l pre ++ [x]) C3 W3 (x.1, o) HN3.out.1 (by rw [← HU.out]; exact HPF.out))
        unfold two at hy
        dsimp only at hy
        gi_wp2
        refine ⟨(by intro h; cases h), ?_⟩
        refine (round_rd hR).mono ?_
        rintro e W4 ⟨C4, hc, hk, (⟨rfl, hj⟩ | ⟨rfl, hj⟩)⟩
        · have HC4 := hide hc
          have HK4 := hide hk
          have HJ4 := hide hj
          clear hc hk hj hR hy
          gi_wp2
          exact ⟨C4, (fun y hy => (HC4.out y hy).elim (HC.out y) (fun h => .inr (Nat.le_trans HK.out.size h))), (HK.out.trans HK4.out (fun y hy => HC.out y hy)), inN_as (inN_mid HN3.out HC4.out HK4.out HJ4.out) (by rw [HU.out])⟩
        · have HC4 := hide hc
          have HK4 := hide hk
          have HJ4 := hide hj
          clear hc hk hj hR hy
          gi_wp2
          exact ⟨C4, (fun y hy => (HC4.out y hy).elim (HC.out y) (fun h => .inr (Nat.le_trans HK.out.size h))), (HK.out.trans HK4.out (fun y hy => HC.out y hy)), rfl, _, by rw [← HU.out]; exact HPF.out, HJ4.out⟩
  case hdone =>
    rintro D2 C W1 hD2 hn hDC hK
    have HN := hide hn
    clear hn
    gi_wp2
    refine ⟨by simp, .inl ⟨_, _, rfl, run_takeDeferred hK, ?_⟩⟩
    exact ⟨_, results_none rfl _ _ _, ⟨_, rfl⟩, C, .inl (HJ.out _ _ _ _ [D2] HN.out.1 (kept_putO _ _ _) (fun y hy => by have := HSA.out; have := HZ.out; simp at hy; subst hy; exact ⟨by omega, hDC⟩))⟩
  case hstop =>
    rintro D2 C c pre W1 hD2 hpl ⟨rfl, p, hp, hjx⟩ hDC hK
    have HN := hide hjx
    clear hjx
    gi_wp2
    refine ⟨by simp, .inl ⟨_, _, rfl, run_takeDeferred hK, ?_⟩⟩
    exact ⟨_, results_none rfl _ _ _, ⟨_, rfl⟩, C, .inr ⟨p, hp, HJX.out _ _ _ _ [D2] HN.out (kept_putO _ _ _) (fun y hy => by have := HSA.out; have := HZ.out; simp at hy; subst hy; exact ⟨by omega, hDC⟩)⟩⟩
end Go.Proofs.Ytfeepmahipecpaa.im
