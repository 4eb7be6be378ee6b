/- What the calls make of an image, place by place. -/
import Derived.Test.YtfeepmahipecpaaImageAwake
import Derived.Test.YtfeepmahipecpaaImageMove
import Derived.Test.YtfeepmahipecpaaSlabs
namespace Go.Proofs.Ytfeepmahipecpaa.im
set_option linter.unusedSimpArgs false
set_option linter.unusedVariables false
open Go.RowKit Go.Proofs.Ytfeepmahipecpaa.mem Go.Proofs.Ytfeepmahipecpaa.base Go.Proofs.Ytfeepmahipecpaa.pd Go.Proofs.Ytfeepmahipecpaa.owns

theorem getD_set (l : List Int) (b : Nat) (v : Int) (j : Nat) (hj : j < l.length) : (l.set b v).getD j 0 = if b = j then v else l.getD j 0 := by
  rw [List.getD_eq_getElem?_getD, List.getD_eq_getElem?_getD, List.getElem?_set]
  by_cases h : b = j
  · subst h
    simp [hj]
  · simp [h]
theorem Tb.swap_get (t : Tb) (b : Nat) (ref : Int) (j : Nat) (hj : j < t.l.length) : (t.swap b ref).l.getD j 0 = if b = j then ref else t.l.getD j 0 := getD_set t.l b ref j hj
theorem Tb.fold_none : ∀ (xs : List (Nat × Int)) (s : Tb × List Int) (j : Nat), j < s.1.l.length → (∀ x ∈ xs, x.1 ≠ j) → (xs.foldl Tb.step s).1.l.getD j 0 = s.1.l.getD j 0
  | [], _, _, _, _ => rfl
  | x :: xs, s, j, hj, h => by
    have h1 := Tb.fold_none xs (Tb.step s x) j (by rw [show (Tb.step s x).1.l.length = s.1.l.length from s.1.swap_len _ _]; exact hj) (fun y hy => h y (by simp [hy]))
    rw [List.foldl_cons, h1]
    show (s.1.swap x.1 x.2).l.getD j 0 = _
    rw [Tb.swap_get _ _ _ _ hj, if_neg (h x (by simp))]
theorem Tb.fold_some : ∀ (xs : List (Nat × Int)) (s : Tb × List Int) (j : Nat) (v : Int), j < s.1.l.length → (∃ x ∈ xs, x.1 = j) → (∀ x ∈ xs, x.1 = j → x.2 = v) → (xs.foldl Tb.step s).1.l.getD j 0 = v
  | [], _, _, _, _, h, _ => by
    obtain ⟨x, hx, _⟩ := h
    cases hx
  | x :: xs, s, j, v, hj, h, hv => by
    have hl : (Tb.step s x).1.l.length = s.1.l.length := s.1.swap_len _ _
    by_cases hr : ∃ y ∈ xs, y.1 = j
    · exact Tb.fold_some xs (Tb.step s x) j v (by rw [hl]; exact hj) hr (fun y hy => hv y (by simp [hy]))
    · have h1 := Tb.fold_none xs (Tb.step s x) j (by rw [hl]; exact hj) (fun y hy e => hr ⟨y, hy, e⟩)
      rw [List.foldl_cons, h1]
      show (s.1.swap x.1 x.2).l.getD j 0 = _
      obtain ⟨y, hy, he⟩ := h
      have hxj : x.1 = j := by
        rcases List.mem_cons.1 hy with rfl | hy
        · exact he
        · exact absurd ⟨y, hy, he⟩ hr
      rw [Tb.swap_get _ _ _ _ hj, if_pos hxj]
      exact hv x (by simp) hxj
theorem likes_get (t : Tb) (b n : Nat) (ref : Int) (j : Nat) (hj : j < t.l.length) : (t.lay (likes b ref n)).1.l.getD j 0 = if b ≤ j ∧ j < b + n then ref else t.l.getD j 0 := by
  by_cases h : b ≤ j ∧ j < b + n
  · rw [if_pos h]
    refine Tb.fold_some _ (t, []) j ref hj ⟨(j, ref), ?_, rfl⟩ (fun x hx _ => (likes_mem hx).2.2)
    unfold likes
    rw [List.mem_map]
    exact ⟨j - b, List.mem_range.2 (by omega), by rw [show b + (j - b) = j by omega]⟩
  · rw [if_neg h]
    exact Tb.fold_none _ (t, []) j hj (fun x hx e => h (by have := likes_mem hx; omega))
theorem pend_get (t : Tb) (os : List Int) (ho : os.length = t.l.length) (j : Nat) (hj : j < t.l.length) : (t.lay (pendL os)).1.l.getD j 0 = if os.getD j 0 = -1 then t.l.getD j 0 else os.getD j 0 := by
  have hm : ∀ x ∈ pendL os, x.2 = os.getD x.1 0 ∧ x.2 ≠ -1 := fun x hx => by
    obtain ⟨h1, h2⟩ := List.mem_filter.1 hx
    exact ⟨(placed_mem h1).2, by simpa using h2⟩
  by_cases h : os.getD j 0 = -1
  · rw [if_pos h]
    exact Tb.fold_none _ (t, []) j hj (fun x hx e => by
      obtain ⟨h1, h2⟩ := hm x hx
      rw [e] at h1
      exact h2 (h1.trans h))
  · rw [if_neg h]
    refine Tb.fold_some _ (t, []) j _ hj ⟨(j, os.getD j 0), ?_, rfl⟩ (fun x hx e => by rw [(hm x hx).1, e])
    refine List.mem_filter.2 ⟨?_, by simpa using h⟩
    unfold placed
    exact List.mem_map.2 ⟨j, List.mem_range.2 (by omega), rfl⟩
section
variable {M : Im} {n : Nat}
/-- Both tables have n places. -/
def Im.of (M : Im) (n : Nat) : Prop := M.b.l.length = n ∧ M.o.l.length = n
theorem IAt.of {w : World} {X : Ib} (h : IAt w X M) : M.of M.b.l.length := ⟨rfl, h.len⟩
theorem forget_b : M.forget.b = M.b := rfl
theorem forget_o (h : M.of n) (j : Nat) (hj : j < n) : M.forget.o.l.getD j 0 = -1 := by
  show (M.o.lay (likes 0 (-1) M.b.l.length)).1.l.getD j 0 = -1
  rw [likes_get _ _ _ _ _ (by rw [h.2]; exact hj), if_pos ⟨Nat.zero_le _, by rw [h.1]; omega⟩]
theorem forget_of (h : M.of n) : M.forget.of n := ⟨h.1, by show (M.o.lay _).1.l.length = n; rw [Tb.lay_len]; exact h.2⟩
theorem stood_of (h : M.of n) : M.stood.of n := ⟨by show (M.b.lay _).1.l.length = n; rw [Tb.lay_len]; exact h.1, h.2⟩
theorem commit_of (h : M.of n) : M.commit.of n := forget_of (stood_of h)
theorem commit_o (h : M.of n) (j : Nat) (hj : j < n) : M.commit.o.l.getD j 0 = -1 := forget_o (stood_of h) j hj
theorem commit_b (h : M.of n) (j : Nat) (hj : j < n) : M.commit.b.l.getD j 0 = if M.o.l.getD j 0 = -1 then M.b.l.getD j 0 else M.o.l.getD j 0 := pend_get M.b M.o.l (by rw [h.1, h.2]) j (by rw [h.1]; exact hj)
theorem laid_of (h : M.of n) (ov : Bool) (xs : List (Nat × Int)) : (M.laid ov xs).of n := by
  cases ov
  · exact ⟨by show (M.b.lay _).1.l.length = n; rw [Tb.lay_len]; exact h.1, h.2⟩
  · exact ⟨h.1, by show (M.o.lay _).1.l.length = n; rw [Tb.lay_len]; exact h.2⟩
theorem put_of (h : M.of n) (ov : Bool) (b : Nat) (a : Int) : (M.put ov ((M.tb ov).swap b a)).of n := by
  cases ov
  · exact ⟨(M.b.swap_len b a).trans h.1, h.2⟩
  · exact ⟨h.1, (M.o.swap_len b a).trans h.2⟩
/-- A place in the other table. -/
theorem put_get (h : M.of n) (ov ow : Bool) (b : Nat) (a : Int) (j : Nat) (hj : j < n) : ((M.put ov ((M.tb ov).swap b a)).tb ow).l.getD j 0 = if ov = ow ∧ b = j then a else (M.tb ow).l.getD j 0 := by
  cases ov <;> cases ow
  · show (M.b.swap b a).l.getD j 0 = _
    rw [Tb.swap_get _ _ _ _ (by rw [h.1]; exact hj)]
    simp [Im.tb]
  · simp [Im.put, Im.tb]
  · simp [Im.put, Im.tb]
  · show (M.o.swap b a).l.getD j 0 = _
    rw [Tb.swap_get _ _ _ _ (by rw [h.2]; exact hj)]
    simp [Im.tb]
theorem laid_get (h : M.of n) (ov ow : Bool) (b k : Nat) (a : Int) (j : Nat) (hj : j < n) : ((M.laid ov (likes b a k)).tb ow).l.getD j 0 = if ov = ow ∧ b ≤ j ∧ j < b + k then a else (M.tb ow).l.getD j 0 := by
  cases ov <;> cases ow
  · show (M.b.lay (likes b a k)).1.l.getD j 0 = _
    rw [likes_get _ _ _ _ _ (by rw [h.1]; exact hj)]
    simp [Im.tb]
  · simp [Im.laid, Im.put, Im.tb]
  · simp [Im.laid, Im.put, Im.tb]
  · show (M.o.lay (likes b a k)).1.l.getD j 0 = _
    rw [likes_get _ _ _ _ _ (by rw [h.2]; exact hj)]
    simp [Im.tb]
theorem fresh_of (n : Nat) : (Im.fresh n).of n := ⟨by simp [Im.fresh], by simp [Im.fresh]⟩
theorem fresh_b (j : Nat) : (Im.fresh n).b.l.getD j 0 = 0 := by simp [Im.fresh, List.getD_eq_getElem?_getD, List.getElem?_replicate]; split <;> rfl
theorem fresh_o (j : Nat) (hj : j < n) : (Im.fresh n).o.l.getD j 0 = -1 := by simp [Im.fresh, List.getD_eq_getElem?_getD, List.getElem?_replicate, hj]

/-- What is so of the refs when so many deeds are done: they are distinct, place by place. -/
def MvI (n : Nat) (i : Int) (M : Im) : Prop := M.of n ∧ ∀ j, j < n → (0 ≤ M.b.l.getD j 0 ∧ M.b.l.getD j 0 ≤ i) ∧ (-1 ≤ M.o.l.getD j 0 ∧ M.o.l.getD j 0 ≤ i) ∧ (M.o.l.getD j 0 = M.b.l.getD j 0 → M.b.l.getD j 0 = 0)
theorem MvI.fresh : MvI n 0 (Im.fresh n) := ⟨fresh_of n, fun j hj => by rw [fresh_b, fresh_o j hj]; omega⟩
theorem MvI.more {i : Int} (h : MvI n i M) : MvI n (i + 1) M := ⟨h.1, fun j hj => by have := h.2 j hj; omega⟩
theorem MvI.put {i : Int} (h : MvI n i M) (hi : 0 ≤ i) (ov : Bool) (b : Nat) : MvI n (i + 1) (M.put ov ((M.tb ov).swap b (i + 1))) := ⟨put_of h.1 ov b _, fun j hj => by
  have h1 := put_get h.1 ov false b (i + 1) j hj
  have h2 := put_get h.1 ov true b (i + 1) j hj
  have h3 := h.2 j hj
  simp only [Im.tb] at h1 h2
  cases ov <;> simp at h1 h2 <;> (simp only [Im.tb, List.getD_eq_getElem?_getD] at h1 h2 h3 ⊢; rw [h1, h2]; split <;> omega)⟩
theorem MvI.drop {i : Int} (h : MvI n i M) (hi : 0 ≤ i) (ov : Bool) (b k : Nat) : MvI n (i + 1) (M.laid ov (likes b 0 k)) := ⟨laid_of h.1 ov _, fun j hj => by
  have h1 := laid_get h.1 ov false b k 0 j hj
  have h2 := laid_get h.1 ov true b k 0 j hj
  have h3 := h.2 j hj
  simp only [Im.tb] at h1 h2
  cases ov <;> simp at h1 h2 <;> (simp only [Im.tb, List.getD_eq_getElem?_getD] at h1 h2 h3 ⊢; rw [h1, h2]; split <;> omega)⟩
theorem MvI.commit {i : Int} (h : MvI n i M) (hi : 0 ≤ i) : MvI n (i + 1) M.commit := ⟨commit_of h.1, fun j hj => by
  have h1 := commit_b h.1 j hj
  have h2 := commit_o h.1 j hj
  have h3 := h.2 j hj
  rw [h1, h2]
  split <;> omega⟩
theorem MvI.forget {i : Int} (h : MvI n i M) (hi : 0 ≤ i) : MvI n (i + 1) M.forget := ⟨forget_of h.1, fun j hj => by
  have h2 := forget_o h.1 j hj
  have h3 := h.2 j hj
  rw [h2, forget_b]
  omega⟩
/-- Refs, place by place. -/
def rfAt (x y : Int) (j : Nat) : List (Nat × Int) := (if decide (x > 0) then [(j, x)] else []) ++ (if decide (y > 0) then [(j, y)] else [])
theorem refsL_eq (h : M.of n) : refsL M = (List.range n).flatMap fun j => rfAt (M.b.l.getD j 0) (M.o.l.getD j 0) j := by
  unfold refsL rf placed
  rw [h.1, List.flatMap_map]
  rfl
def moved (k : Nat) (old : Int) (x : Nat × Int) : Nat × Int := if x.1 = k ∧ x.2 = old then (k, 2000) else x
theorem flatMap_congr' {α β : Type} {l : List α} {f g : α → List β} (h : ∀ a ∈ l, f a = g a) : l.flatMap f = l.flatMap g := by
  induction l with
  | nil => rfl
  | cons x l ih => rw [List.flatMap_cons, List.flatMap_cons, h x (by simp), ih (fun a ha => h a (by simp [ha]))]
theorem moved_refs {i : Int} (h : MvI n i M) (hi : i < 2000) (k : Nat) (hk : k < n) (old : Int) (ho : 1 ≤ old) (hold : M.b.l.getD k 0 = old ∨ M.o.l.getD k 0 = old) : (M.move k old 2000).2 = true ∧ refsL (M.move k old 2000).1 = (refsL M).map (moved k old) := by
  have hmv : (M.move k old 2000).2 = true ∧ (M.move k old 2000).1.of n ∧ ∀ j, j < n → rfAt ((M.move k old 2000).1.b.l.getD j 0) ((M.move k old 2000).1.o.l.getD j 0) j = (rfAt (M.b.l.getD j 0) (M.o.l.getD j 0) j).map (moved k old) := by
    have h3 := h.2 k hk
    have hne : ∀ j, j ≠ k → rfAt (M.b.l.getD j 0) (M.o.l.getD j 0) j = (rfAt (M.b.l.getD j 0) (M.o.l.getD j 0) j).map (moved k old) := fun j hj => by
      unfold rfAt moved
      split <;> split <;> simp [hj]
    unfold Im.move
    by_cases hb : M.b.l.getD k 0 = old
    · rw [if_pos hb]
      refine ⟨rfl, ⟨(M.b.swap_len _ _).trans h.1.1, h.1.2⟩, fun j hj => ?_⟩
      show rfAt ((M.b.swap k 2000).l.getD j 0) (M.o.l.getD j 0) j = _
      rw [Tb.swap_get _ _ _ _ (by rw [h.1.1]; exact hj)]
      by_cases hjk : k = j
      · subst hjk
        rw [if_pos rfl, hb]
        have hoy : M.o.l.getD k 0 ≠ old := fun e => by have := h3.2.2 (e.trans hb.symm); omega
        unfold rfAt moved
        rw [if_pos (by decide : decide ((2000 : Int) > 0) = true), if_pos (decide_eq_true (by omega) : decide (old > 0) = true)]
        rw [List.getD_eq_getElem?_getD] at hoy
        split <;> simp [hoy]
        try exact fun e => absurd e hoy
      · rw [if_neg hjk]
        exact hne j (fun e => hjk e.symm)
    · rw [if_neg hb]
      have hb2 : M.o.l.getD k 0 = old := hold.resolve_left hb
      rw [if_pos hb2]
      refine ⟨rfl, ⟨h.1.1, (M.o.swap_len _ _).trans h.1.2⟩, fun j hj => ?_⟩
      show rfAt (M.b.l.getD j 0) ((M.o.swap k 2000).l.getD j 0) j = _
      rw [Tb.swap_get _ _ _ _ (by rw [h.1.2]; exact hj)]
      by_cases hjk : k = j
      · subst hjk
        rw [if_pos rfl, hb2]
        unfold rfAt moved
        rw [if_pos (by decide : decide ((2000 : Int) > 0) = true), if_pos (decide_eq_true (by omega) : decide (old > 0) = true)]
        rw [List.getD_eq_getElem?_getD] at hb
        split <;> simp
        exact fun e => absurd e hb
      · rw [if_neg hjk]
        exact hne j (fun e => hjk e.symm)
  obtain ⟨g1, g2, g3⟩ := hmv
  refine ⟨g1, ?_⟩
  rw [refsL_eq g2, refsL_eq h.1, List.map_flatMap]
  exact flatMap_congr' (fun j hj => g3 j (List.mem_range.1 hj))
theorem move_none {i : Int} (h : MvI n i M) (k : Nat) (hk : k < n) (old a : Int) (ho : i < old) : M.move k old a = (M, false) := by
  have h3 := h.2 k hk
  unfold Im.move
  rw [if_neg (by omega), if_neg (by omega)]
end
/-- A deed that came in. -/
theorem deed_at {w : World} {A : Option Addr} {l : List (List Int)} (h : Slab w 3 A l) {i : Nat} (hi : i < l.length) :
    ∃ ad kd bb nn, A = some ad ∧ l[i]? = some [kd, bb, nn] ∧ w.cell? (ad.add (i * 3)) = some (.int .i64 kd) ∧ w.cell? ⟨(ad.add (i * 3)).block, (ad.add (i * 3)).off + 1, none⟩ = some (.int .i64 bb) ∧ w.cell? ⟨(ad.add (i * 3)).block, (ad.add (i * 3)).off + 2, none⟩ = some (.int .i64 nn) := by
  obtain ⟨xs, hx⟩ : ∃ xs, l[i]? = some xs := ⟨_, List.getElem?_eq_getElem hi⟩
  obtain ⟨hl, a, ha, hc⟩ := h i xs hx
  obtain ⟨kd, bb, nn, rfl⟩ : ∃ a b c, xs = [a, b, c] := by
    match xs, hl with
    | [a, b, c], _ => exact ⟨a, b, c, rfl⟩
  exact ⟨a, kd, bb, nn, ha, hx, by simpa using hc 0 kd rfl, by rw [← add_pos _ 1 (by decide), add_of_add]; exact hc 1 bb rfl, by rw [← add_pos _ 2 (by decide), add_of_add]; exact hc 2 nn rfl⟩
/-- A cell of an own row is put. -/
theorem own_put {w : World} {base : Nat} {e : TypeId} {sz : Nat} {ad : Addr} {n c : Nat} {xs : List Value} (h : w.ownsRow base e sz (.slice (some ad) n c) n xs) (j : Nat) (hj : j < xs.length) (u : Value) :
    w.frozen? (ad.add j) = false ∧ (w.setCell (ad.add j) u).ownsRow base e sz (.slice (some ad) n c) n (xs.set j u) ∧ Kept [ad.block] w (w.setCell (ad.add j) u) ∧ base ≤ ad.block := by
  have hl := h.1
  rcases h.2 with ⟨hn, _⟩ | ⟨g, cap, cur, hv, hb, hg, hn, hm, hs, ht⟩
  · cases hn
  · injection hv with hv1 _ hv3
    injection hv1 with hv1
    subst hv1 hv3
    have hblk : Blk w g e cur := hg
    rw [add_mk, Nat.zero_add]
    refine ⟨hblk.frozen j, ⟨by rw [List.length_set]; exact hl, .inr ⟨g, _, cur.setIfInBounds j u, rfl, hb, hblk.set_ j u, hn, hm, by rw [Array.size_setIfInBounds]; exact hs, ?_⟩⟩, (Kept.refl _ w).set_ (.inl (by simp)) j u, hb⟩
    rw [Array.toList_setIfInBounds, List.take_set, ht]
theorem cellsR_set : ∀ (l : List (Nat × Int)) (i : Nat) (x : Nat × Int) (v : Int), l[i]? = some x → (cellsR l).set (i * 2 + 1) (.int .i64 v) = cellsR (l.set i (x.1, v))
  | [], _, _, _, h => by simp at h
  | y :: l, 0, x, v, h => by
    simp at h
    subst h
    simp [cellsR]
  | y :: l, i + 1, x, v, h => by
    have h1 := cellsR_set l i x v (by simpa using h)
    have e : ∀ (z : Nat × Int) (m : List (Nat × Int)), cellsR (z :: m) = .int .i64 (z.1 : Int) :: .int .i64 z.2 :: cellsR m := fun z m => by simp [cellsR]
    rw [List.set_cons_succ, e, e, show (i + 1) * 2 + 1 = i * 2 + 1 + 1 + 1 by omega, List.set_cons_succ, List.set_cons_succ, h1]
/-- Of a list the first so many are turned by f. -/
def partly (f : Nat × Int → Nat × Int) (R : List (Nat × Int)) (i : Nat) : List (Nat × Int) := (R.take i).map f ++ R.drop i
theorem partly_zero (f : Nat × Int → Nat × Int) (R : List (Nat × Int)) : partly f R 0 = R := by simp [partly]
theorem partly_len (f : Nat × Int → Nat × Int) (R : List (Nat × Int)) (i : Nat) : (partly f R i).length = R.length := by simp [partly]; omega
theorem partly_at {f : Nat × Int → Nat × Int} {R : List (Nat × Int)} {i : Nat} {x : Nat × Int} (h : R[i]? = some x) : (partly f R i)[i]? = some x := by
  have hi := (List.getElem?_eq_some_iff.1 h).1
  unfold partly
  rw [List.getElem?_append_right (by simp; omega)]
  simp [Nat.min_eq_left (Nat.le_of_lt hi), h]
theorem partly_succ {f : Nat × Int → Nat × Int} {R : List (Nat × Int)} {i : Nat} {x : Nat × Int} (h : R[i]? = some x) : partly f R (i + 1) = (partly f R i).set i (f x) := by
  have hi := (List.getElem?_eq_some_iff.1 h).1
  have e := (List.getElem?_eq_some_iff.1 h).2
  unfold partly
  rw [List.set_append_right _ _ (by simp; omega), List.take_add_one, h]
  simp [Nat.min_eq_left (Nat.le_of_lt hi)]
  rw [List.drop_eq_getElem_cons hi, List.set_cons_zero]
theorem partly_same {f : Nat × Int → Nat × Int} {R : List (Nat × Int)} {i : Nat} {x : Nat × Int} (h : R[i]? = some x) (hf : f x = x) : partly f R (i + 1) = partly f R i := by
  rw [partly_succ h, hf]
  have hp := partly_at (f := f) h
  have hi := (List.getElem?_eq_some_iff.1 hp).1
  apply List.ext_getElem?
  intro j
  rw [List.getElem?_set]
  by_cases hj : i = j
  · subst hj
    rw [if_pos rfl, if_pos hi, hp]
  · rw [if_neg hj]
end Go.Proofs.Ytfeepmahipecpaa.im
