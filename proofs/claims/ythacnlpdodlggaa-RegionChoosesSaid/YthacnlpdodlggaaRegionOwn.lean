/- A region under way: its three slices grow by append. (Written by tools/genrgown.py.) -/
import Derived.Test.YthacnlpdodlggaaRegionRead
import Derived.Test.YthacnlpdodlggaaRefCore
namespace Go.Proofs.Ythacnlpdodlggaa.rg
set_option linter.unusedSimpArgs false
open Go.RowKit Go.Proofs.Ythacnlpdodlggaa.mem Go.Proofs.Ythacnlpdodlggaa.base Go.Proofs.Ythacnlpdodlggaa.row

theorem own_blk {w : World} {base : Nat} {e : TypeId} {sz : Nat} {v : Value} {n : Nat} {xs : List Value} (h : w.ownsRow base e sz v n xs) : ∀ i ∈ v.ownBlock.toList, base ≤ i ∧ i < w.heap.size ∧ ∃ cur, Blk w i e cur := by
  intro i hi
  rcases h.2 with ⟨rfl, _⟩ | ⟨g, cap, cur, rfl, hb, hg, _⟩
  · simp [Value.ownBlock] at hi
  · simp [Value.ownBlock] at hi
    subst hi
    exact ⟨hb, Blk.lt (show Blk w _ e cur from hg), cur, hg⟩
theorem own_keep {w w' : World} {base : Nat} {e : TypeId} {sz : Nat} {v : Value} {n : Nat} {xs : List Value} {S : List Nat} (h : w.ownsRow base e sz v n xs) (k : Kept S w w') (hs : ∀ i ∈ S, i ∉ v.ownBlock.toList) : w'.ownsRow base e sz v n xs := by
  refine ⟨h.1, ?_⟩
  rcases h.2 with hn | ⟨g, cap, cur, rfl, hb, hg, rest⟩
  · exact .inl hn
  · exact .inr ⟨g, cap, cur, rfl, hb, k.blk (show Blk w g e cur from hg) (fun hm => hs g hm (by simp [Value.ownBlock])), rest⟩
theorem own_apart {w : World} {b1 b2 : Nat} {e1 e2 : TypeId} {s1 s2 : Nat} {v u : Value} {n m : Nat} {xs ys : List Value} (h : w.ownsRow b1 e1 s1 v n xs) (k : w.ownsRow b2 e2 s2 u m ys) (hne : e1 ≠ e2) : ∀ i ∈ v.ownBlock.toList, i ∉ u.ownBlock.toList := by
  intro i hi hj
  obtain ⟨_, _, c1, h1⟩ := own_blk h i hi
  obtain ⟨_, _, c2, h2⟩ := own_blk k i hj
  unfold Blk at h1 h2
  rw [h1] at h2
  injection h2 with h2
  injection h2 with _ h2
  exact hne h2
theorem own_low {w : World} {b b' : Nat} {e : TypeId} {sz : Nat} {v : Value} {n : Nat} {xs : List Value} (h : w.ownsRow b e sz v n xs) (hb : b' ≤ b) : w.ownsRow b' e sz v n xs := by
  refine ⟨h.1, ?_⟩
  rcases h.2 with hn | ⟨g, cap, cur, rfl, hg, rest⟩
  · exact .inl hn
  · exact .inr ⟨g, cap, cur, rfl, Nat.le_trans hb hg, rest⟩
/-- What an own row reads. -/
theorem own_read {w : World} {base : Nat} {e : TypeId} {sz : Nat} {v : Value} {n : Nat} {xs : List Value} (h : w.ownsRow base e sz v n xs) : ∃ A c, v = .slice A n c ∧ n ≤ c ∧ (∀ S : List Nat, (∀ i ∈ S, i < base ∨ w.heap.size ≤ i) → Vals w S A xs) := by
  have hl := h.1
  rcases h.2 with ⟨rfl, h0⟩ | ⟨g, cap, cur, rfl, hb, hh, hn, hm, hs, ht⟩
  · subst h0
    have e0 : xs = [] := List.eq_nil_of_length_eq_zero (by omega)
    subst e0
    exact ⟨none, 0, rfl, Nat.le_refl _, fun S _ => Vals.nil _ _ _⟩
  · refine ⟨_, _, rfl, hn, fun S hS => ?_⟩
    have hlt : g < w.heap.size := Blk.lt (show Blk w g e cur from hh)
    refine Vals.blk 0 (show Blk w g e cur from hh) (fun hm => by have := hS _ hm; omega) (fun i x hv => ?_)
    have hi : i < xs.length := (List.getElem?_eq_some_iff.1 hv).1
    rw [← ht, List.getElem?_take_of_lt (by rw [← hl]; exact hi)] at hv
    simpa using hv

/-- A region under way in its block s: Base in v, Over in u, Segs in z. -/
structure MR (wr w : World) (g s Bz : Nat) (T : Rg) (v u z : Value) : Prop where
  rec_ : Blk wr s 28 #[.int .i64 T.g, .int .i64 T.v, .int .i64 T.m, .int .i64 T.e, .int .i64 T.q, .int .i64 T.d, .int .i64 T.s, .int .i64 T.o, .int .i64 T.l, .int .i64 T.p, .int .i64 T.k, v, u, z]
  bs : wr.ownsRow Bz 3 1 v T.bs.length (T.bs.map I)
  ov : wr.ownsRow Bz 3 1 u T.ov.length (T.ov.map I)
  us : wr.ownsRow Bz 79 2 z T.us.length (usVals T.us)
  apart : ∀ i ∈ v.ownBlock.toList, i ∉ u.ownBlock.toList
  zero : Blk wr g 28 (Rg.zero.cells Sl.zero)
  kept : Kept [] w wr
  size : Bz ≤ wr.heap.size
theorem MR.c {wr w : World} {g s Bz : Nat} {T : Rg} {v u z : Value} (h : MR wr w g s Bz T v u z) : wr.cell? ⟨s, 11, none⟩ = some v ∧ wr.cell? ⟨s, 12, none⟩ = some u ∧ wr.cell? ⟨s, 13, none⟩ = some z := ⟨h.rec_.cell 11, h.rec_.cell 12, h.rec_.cell 13⟩
/-- What it reads. -/
theorem MR.read {wr w : World} {g s Bz : Nat} {T : Rg} {v u z : Value} (h : MR wr w g s Bz T v u z) : ∃ X : Sl, v = .slice X.A X.a X.ca ∧ u = .slice X.O X.o X.co ∧ z = .slice X.U X.u X.cu ∧ X.a = T.bs.length ∧ X.o = T.ov.length ∧ X.u = T.us.length ∧ (∀ S : List Nat, (∀ i ∈ S, i < Bz ∨ wr.heap.size ≤ i) → RgIn wr S X T) := by
  obtain ⟨A, ca, e1, _, h1⟩ := own_read h.bs
  obtain ⟨O, co, e2, _, h2⟩ := own_read h.ov
  obtain ⟨U, cu, e3, _, h3⟩ := own_read h.us
  exact ⟨⟨A, O, U, _, ca, _, co, _, cu⟩, e1, e2, e3, rfl, rfl, rfl, fun S hS => ⟨rfl, rfl, rfl, h1 S hS, h2 S hS, h3 S hS⟩⟩
/-- A call that turns none of it. -/
theorem MR.kept_ {wr w w9 : World} {g s Bz : Nat} {T : Rg} {v u z : Value} {S : List Nat} (h : MR wr w g s Bz T v u z) (hS : ∀ i ∈ S, i < Bz ∧ i ≠ g ∧ i ≠ s ∧ w.heap.size ≤ i) (k : Kept S wr w9) : MR w9 w g s Bz T v u z := by
  have hv := own_blk h.bs
  have hu := own_blk h.ov
  have hz := own_blk h.us
  refine ⟨k.blk h.rec_ (fun hm => (hS s hm).2.2.1 rfl), own_keep h.bs k (fun i hi hm => by have := hS i hi; have := hv i hm; omega), own_keep h.ov k (fun i hi hm => by have := hS i hi; have := hu i hm; omega), own_keep h.us k (fun i hi hm => by have := hS i hi; have := hz i hm; omega), h.apart, k.blk h.zero (fun hm => (hS g hm).2.1 rfl), h.kept.trans k (fun i hi => .inr (hS i hi).2.2.2), Nat.le_trans h.size k.size⟩

theorem MR.app_bs {wr w w9 w10 : World} {g s Bz : Nat} {T : Rg} {v u z v1 : Value} (h : MR wr w g s Bz T v u z) (hgs : g ≠ s) (hg : g < Bz) (hs : s < Bz) (hw : w.heap.size ≤ s) (k9 : Kept [] wr w9) (x : Int) (hown : w10.ownsRow Bz 3 1 v1 (T.bs.length + 1) (T.bs.map I ++ [x].map I)) (hk : Kept v.ownBlock.toList w9 w10)
    (hat : v1.ownBlock = v.ownBlock ∨ v1.ownBlock = some w9.heap.size) : MR (w10.setCell ⟨s, 11, none⟩ v1) w g s Bz { T with bs := T.bs ++ [x] } v1 u z := by
  have h9 := h.kept_ (S := []) (by simp) k9
  have hv := own_blk h9.bs
  have hu := own_blk h9.ov
  have hz := own_blk h9.us
  have avz := own_apart h9.bs h9.us (by decide)
  have auz := own_apart h9.ov h9.us (by decide)
  have azv := own_apart h9.us h9.bs (by decide)
  have azu := own_apart h9.us h9.ov (by decide)
  have ks : Kept [s] w10 (w10.setCell ⟨s, 11, none⟩ v1) := (Kept.refl [s] w10).set_ (b := s) (.inl (by simp)) 11 v1
  have h1 := own_blk hown
  refine ⟨(hk.blk h9.rec_ (fun hm => by have := hv s hm; omega)).set_ 11 v1, ?_, ?_, ?_, ?_, ks.blk (hk.blk h9.zero (fun hm => by have := hv g hm; omega)) (by simp; exact hgs), (h9.kept.trans hk (fun i hi => by have := hv i hi; have := h.size; have := h.kept.size; exact .inr (by omega))).trans ks (by simp; exact hw), by have := h9.size; have := hk.size; have := ks.size; omega⟩
  · have e : T.bs.map I ++ [x].map I = List.map I (T.bs ++ [x]) := by simp [I]
    rw [show ({ T with bs := T.bs ++ [x] } : Rg).bs = T.bs ++ [x] from rfl, List.length_append, ← e]
    exact own_keep hown ks (fun i hi hm => by simp at hi; subst hi; have := h1 _ hm; omega)
  · exact own_keep (own_keep h9.ov hk (fun i hi => h9.apart i hi)) ks (fun i hi hm => by simp at hi; subst hi; have := hu _ hm; omega)
  · exact own_keep (own_keep h9.us hk (avz)) ks (fun i hi hm => by simp at hi; subst hi; have := hz _ hm; omega)
  · intro i hi hm
    rcases hat with e | e
    · rw [e] at hi
      exact h9.apart i hi hm
    · rw [e] at hi
      simp at hi
      have := hu i hm
      omega

theorem MR.app_ov {wr w w9 w10 : World} {g s Bz : Nat} {T : Rg} {v u z v1 : Value} (h : MR wr w g s Bz T v u z) (hgs : g ≠ s) (hg : g < Bz) (hs : s < Bz) (hw : w.heap.size ≤ s) (k9 : Kept [] wr w9) (x : Int) (hown : w10.ownsRow Bz 3 1 v1 (T.ov.length + 1) (T.ov.map I ++ [x].map I)) (hk : Kept u.ownBlock.toList w9 w10)
    (hat : v1.ownBlock = u.ownBlock ∨ v1.ownBlock = some w9.heap.size) : MR (w10.setCell ⟨s, 12, none⟩ v1) w g s Bz { T with ov := T.ov ++ [x] } v v1 z := by
  have h9 := h.kept_ (S := []) (by simp) k9
  have hv := own_blk h9.bs
  have hu := own_blk h9.ov
  have hz := own_blk h9.us
  have avz := own_apart h9.bs h9.us (by decide)
  have auz := own_apart h9.ov h9.us (by decide)
  have azv := own_apart h9.us h9.bs (by decide)
  have azu := own_apart h9.us h9.ov (by decide)
  have ks : Kept [s] w10 (w10.setCell ⟨s, 12, none⟩ v1) := (Kept.refl [s] w10).set_ (b := s) (.inl (by simp)) 12 v1
  have h1 := own_blk hown
  refine ⟨(hk.blk h9.rec_ (fun hm => by have := hu s hm; omega)).set_ 12 v1, ?_, ?_, ?_, ?_, ks.blk (hk.blk h9.zero (fun hm => by have := hu g hm; omega)) (by simp; exact hgs), (h9.kept.trans hk (fun i hi => by have := hu i hi; have := h.size; have := h.kept.size; exact .inr (by omega))).trans ks (by simp; exact hw), by have := h9.size; have := hk.size; have := ks.size; omega⟩
  · exact own_keep (own_keep h9.bs hk (fun i hi hm => h9.apart i hm hi)) ks (fun i hi hm => by simp at hi; subst hi; have := hv _ hm; omega)
  · have e : T.ov.map I ++ [x].map I = List.map I (T.ov ++ [x]) := by simp [I]
    rw [show ({ T with ov := T.ov ++ [x] } : Rg).ov = T.ov ++ [x] from rfl, List.length_append, ← e]
    exact own_keep hown ks (fun i hi hm => by simp at hi; subst hi; have := h1 _ hm; omega)
  · exact own_keep (own_keep h9.us hk (auz)) ks (fun i hi hm => by simp at hi; subst hi; have := hz _ hm; omega)
  · intro i hi hm
    rcases hat with e | e
    · rw [e] at hm
      exact h9.apart i hi hm
    · rw [e] at hm
      simp at hm
      have := hv i hi
      omega

theorem MR.app_us {wr w w9 w10 : World} {g s Bz : Nat} {T : Rg} {v u z v1 : Value} (h : MR wr w g s Bz T v u z) (hgs : g ≠ s) (hg : g < Bz) (hs : s < Bz) (hw : w.heap.size ≤ s) (k9 : Kept [] wr w9) (x : Us) (hown : w10.ownsRow Bz 79 2 v1 (T.us.length + 1) (usVals T.us ++ x.vals)) (hk : Kept z.ownBlock.toList w9 w10)
    (_hat : v1.ownBlock = z.ownBlock ∨ v1.ownBlock = some w9.heap.size) : MR (w10.setCell ⟨s, 13, none⟩ v1) w g s Bz { T with us := T.us ++ [x] } v u v1 := by
  have h9 := h.kept_ (S := []) (by simp) k9
  have hv := own_blk h9.bs
  have hu := own_blk h9.ov
  have hz := own_blk h9.us
  have avz := own_apart h9.bs h9.us (by decide)
  have auz := own_apart h9.ov h9.us (by decide)
  have azv := own_apart h9.us h9.bs (by decide)
  have azu := own_apart h9.us h9.ov (by decide)
  have ks : Kept [s] w10 (w10.setCell ⟨s, 13, none⟩ v1) := (Kept.refl [s] w10).set_ (b := s) (.inl (by simp)) 13 v1
  have h1 := own_blk hown
  refine ⟨(hk.blk h9.rec_ (fun hm => by have := hz s hm; omega)).set_ 13 v1, ?_, ?_, ?_, ?_, ks.blk (hk.blk h9.zero (fun hm => by have := hz g hm; omega)) (by simp; exact hgs), (h9.kept.trans hk (fun i hi => by have := hz i hi; have := h.size; have := h.kept.size; exact .inr (by omega))).trans ks (by simp; exact hw), by have := h9.size; have := hk.size; have := ks.size; omega⟩
  · exact own_keep (own_keep h9.bs hk (azv)) ks (fun i hi hm => by simp at hi; subst hi; have := hv _ hm; omega)
  · exact own_keep (own_keep h9.ov hk (azu)) ks (fun i hi hm => by simp at hi; subst hi; have := hu _ hm; omega)
  · rw [show ({ T with us := T.us ++ [x] } : Rg).us = T.us ++ [x] from rfl, List.length_append, usVals_snoc]
    exact own_keep hown ks (fun i hi hm => by simp at hi; subst hi; have := h1 _ hm; omega)
  · exact h9.apart

theorem oneCell_Us (i : Us) : ∀ u ∈ i.vals, u.oneCell' = true := by
  intro u hu
  simp only [Us.vals, List.mem_cons, List.not_mem_nil, or_false] at hu
  rcases hu with rfl | rfl <;> rfl

set_option maxRecDepth 100000 in
set_option maxHeartbeats 1000000 in
theorem runbits_own (y : Nat) (x : Int) (w : World) (hx : 0 ≤ x ∧ x < 256) (hy : 1 ≤ y ∧ y ≤ 5) :
    Calls Try.prog 52 #[.int .i64 x, .int .i64 y] w fun e w' => ∃ v, e = .returned v ∧ w'.ownsRow w.heap.size 3 1 v y ((unbits y x).map I) ∧ Kept [] w w' := by
  have HX := hide hx
  have hx0 := hx.1
  have hx1 := hx.2
  have hy1 := hy.1
  have hy5 := hy.2
  clear hx hy
  go_enter Try.func52, Try.ntmps52
  go_wp2
  go_loopw [5, 6] (fun v i wr => ∃ j : Nat, j ≤ y ∧ i = .int .i64 j ∧ Hid (wr.ownsRow w.heap.size 3 1 v j ((unbits j x).map I)) ∧ Hid (Kept [] w wr)) (fun v i wr => y - (intOf i).toNat)
  case atStart => exact ⟨0, by omega, rfl, hide (World.ownsRow_nil _ _ _ _), hide (Kept.refl _ _)⟩
  case round =>
    obtain ⟨j, hj, rfl, HO, HK⟩ := hrel
    obtain ⟨A5, c5, rfl, h5, _, _, _⟩ := base.own_slice HO.out
    by_cases hlt : j < y
    · have HOA : Hid (∀ o : Obj, (wr.alloc o).ownsRow w.heap.size 3 1 (.slice A5 j c5) j ((unbits j x).map I)) := hide (fun o => HO.out.alloc o)
      have hs := HK.out.size
      have hd : bits .and .i64 (x / 2 ^ j) 1 = x / 2 ^ j % 2 := bit_step HX.out rfl
      have HNX : Hid (∀ (v : Value) (w1 : World), w1.ownsRow w.heap.size 3 1 v (j + 1) ((unbits j x).map I ++ [x / 2 ^ j % 2].map I) → w1.ownsRow w.heap.size 3 1 v (j + 1) ((unbits (j + 1) x).map I)) := hide (fun v w1 h => by
        rw [unbits_succ, List.map_append]
        exact h)
      go_wp2_with (at_builtin; refine wpList_append_vals rfl (.tmp 12) (.tmp 17) 25 rfl w.heap.size 3 (.int .i64 0) 1 8 Try.underlying25 base.int_info rfl (by omega) (.slice A5 j c5) j ((unbits j x).map I) rfl (HOA.out _) [] _ 1 1 ([x / 2 ^ j % 2].map I) rfl (by simp) (base.vals_one _ [] _ _ (by simp)) (oneCell_I _) (by simp only [maxLen]; omega) (by omega) (by simp; omega) ?_; intro v1 w1 hown1 hk1 hat1)
      go_roundw
      case rel => exact ⟨j + 1, by omega, by go_num, hide (HNX.out _ _ hown1), hide (base.kept_own HO.out (Nat.le_refl _) HK.out _ hk1)⟩
      case measure => simp [intOf]; omega
    · obtain rfl : j = y := by omega
      go_wp2
      go_ret
      exact ⟨_, rfl, HO.out, HK.out⟩
end Go.Proofs.Ythacnlpdodlggaa.rg
