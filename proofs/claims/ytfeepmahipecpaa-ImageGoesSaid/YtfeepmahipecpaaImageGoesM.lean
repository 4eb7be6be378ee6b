/- Which refs went: counted. -/
import Derived.Test.YtfeepmahipecpaaImagePure
namespace Go.Proofs.Ytfeepmahipecpaa.im
set_option linter.unusedSimpArgs false
set_option linter.unusedVariables false
open Go.RowKit Go.Proofs.Ytfeepmahipecpaa.mem Go.Proofs.Ytfeepmahipecpaa.base Go.Proofs.Ytfeepmahipecpaa.pd Go.Proofs.Ytfeepmahipecpaa.owns

def pos (l : List Int) : List Int := l.filter fun x => decide (0 < x)
theorem pos_app (l m : List Int) : pos (l ++ m) = pos l ++ pos m := by simp [pos]
theorem pos_mem {l : List Int} {x : Int} (h : x ∈ pos l) : 0 < x ∧ x ∈ l := by
  obtain ⟨h1, h2⟩ := List.mem_filter.1 h
  exact ⟨by simpa using h2, h1⟩
theorem pos_one (x : Int) : pos [x] = if 0 < x then [x] else [] := by unfold pos; by_cases h : 0 < x <;> simp [h]
/-- One place is laid. -/
theorem swap_pos (t : Tb) (b : Nat) (ref : Int) (hb : b < t.l.length) (hne : t.l.getD b 0 = ref → ref ≤ 0) : (pos (t.swap b ref).l ++ (if t.went b ref = 0 then [] else [t.went b ref])).Perm (pos t.l ++ pos [ref]) := by
  have e1 : t.l = t.l.take b ++ t.l.getD b 0 :: t.l.drop (b + 1) := by
    conv => lhs; rw [← List.take_append_drop b t.l]
    rw [List.drop_eq_getElem_cons hb, List.getD_eq_getElem?_getD, List.getElem?_eq_getElem hb]
    rfl
  have e2 : (t.swap b ref).l = t.l.take b ++ ref :: t.l.drop (b + 1) := List.set_eq_take_append_cons_drop.trans (if_pos hb)
  have hw : (if t.went b ref = 0 then [] else [t.went b ref]) = pos [t.l.getD b 0] := by
    rw [pos_one]
    unfold Tb.went
    clear e1 e2
    generalize t.l.getD b 0 = o at hne ⊢
    by_cases h1 : o ≤ 0
    · rw [show (if o ≤ 0 ∨ o = ref then (0 : Int) else o) = 0 from if_pos (Or.inl h1), if_pos rfl, if_neg (by omega)]
    · by_cases h2 : o = ref
      · exact absurd (hne h2) (by omega)
      · rw [show (if o ≤ 0 ∨ o = ref then (0 : Int) else o) = o from if_neg (fun h => Or.elim h h1 h2), if_neg (by omega), if_pos (by omega)]
  rw [hw, e2]
  conv => rhs; rw [e1]
  have c1 : ∀ (x : Int) (m : List Int), pos (x :: m) = pos [x] ++ pos m := fun x m => by rw [← pos_app]; rfl
  rw [pos_app, pos_app, c1 ref (t.l.drop (b + 1)), c1 (t.l.getD b 0) (t.l.drop (b + 1))]
  rw [List.perm_iff_count]
  intro a
  simp only [List.count_append]
  omega
theorem step_eq (s : Tb × List Int) (x : Nat × Int) : (Tb.step s x).1 = s.1.swap x.1 x.2 ∧ (Tb.step s x).2 = s.2 ++ (if s.1.went x.1 x.2 = 0 then [] else [s.1.went x.1 x.2]) := by
  unfold Tb.step
  refine ⟨rfl, ?_⟩
  dsimp only
  split <;> simp
/-- Like refs that are none are laid. -/
theorem likes_pos (t : Tb) (b k : Nat) (ref : Int) (hr : ref ≤ 0) (hk : b + k ≤ t.l.length) : (pos (t.lay (likes b ref k)).1.l ++ (t.lay (likes b ref k)).2).Perm (pos t.l) := by
  induction k with
  | zero => simp [likes, Tb.lay_nil]
  | succ k ih =>
    have h1 := ih (by omega)
    rw [likes_succ, Tb.lay_snoc]
    obtain ⟨e1, e2⟩ := step_eq (t.lay (likes b ref k)) (b + k, ref)
    rw [e1, e2]
    have h2 := swap_pos (t.lay (likes b ref k)).1 (b + k) ref (by rw [Tb.lay_len]; omega) (fun _ => hr)
    have h3 : pos [ref] = [] := by rw [pos_one, if_neg (by omega)]
    rw [h3, List.append_nil] at h2
    rw [List.perm_iff_count] at h1 h2 ⊢
    intro a
    have g1 := h1 a
    have g2 := h2 a
    simp only [List.count_append] at g1 g2 ⊢
    omega
theorem placed_unt_lt {os : List Int} {k : Nat} {x : Nat × Int} (h : x ∈ unt (placed os k)) : x.1 < k := (placed_mem (List.mem_filter.1 h).1).1
/-- What is pending is laid. -/
theorem pend_pos (t : Tb) (os : List Int) (ho : os.length = t.l.length) (hd : ∀ j, j < os.length → os.getD j 0 = t.l.getD j 0 → t.l.getD j 0 ≤ 0) (k : Nat) (hk : k ≤ os.length) : (pos (t.lay (unt (placed os k))).1.l ++ (t.lay (unt (placed os k))).2).Perm (pos t.l ++ pos (os.take k)) := by
  induction k with
  | zero => simp [placed, unt, Tb.lay_nil, pos]
  | succ k ih =>
    have h1 := ih (by omega)
    have hx := getD_of (l := os) (b := k) (by omega)
    rw [placed_succ os k _ hx, List.take_add_one, hx]
    simp only [Option.toList_some]
    rw [pos_app]
    cases hu : ((k, os.getD k 0).2 != -1) with
    | false =>
      rw [unt_no hu]
      have : os.getD k 0 = -1 := by simpa using hu
      rw [this, show pos [(-1 : Int)] = [] from rfl, List.append_nil]
      exact h1
    | true =>
      rw [unt_yes hu, Tb.lay_snoc]
      obtain ⟨e1, e2⟩ := step_eq (t.lay (unt (placed os k))) (k, os.getD k 0)
      rw [e1, e2]
      dsimp only
      have hg : (t.lay (unt (placed os k))).1.l.getD k 0 = t.l.getD k 0 := Tb.fold_none _ (t, []) k (by show k < t.l.length; omega) (fun x hx => by have := placed_unt_lt hx; omega)
      have h2 := swap_pos (t.lay (unt (placed os k))).1 k (os.getD k 0) (by rw [Tb.lay_len]; omega) (fun e => by rw [hg] at e; have := hd k (by omega) e.symm; omega)
      rw [List.perm_iff_count] at h1 h2 ⊢
      intro a
      have g1 := h1 a
      have g2 := h2 a
      simp only [List.count_append] at g1 g2 ⊢
      omega
/-- All refs of an image. -/
def Im.all (M : Im) : List Int := pos M.b.l ++ pos M.o.l
section
variable {n : Nat} {i : Int} {M : Im}
theorem all_fresh : (Im.fresh n).all = [] := by simp [Im.all, Im.fresh, pos, List.filter_replicate]
theorem put_all (h : MvI n i M) (ov : Bool) (b : Nat) (hb : b < n) (a : Int) (ha : i < a) (h0 : 0 < a) : ((M.put ov ((M.tb ov).swap b a)).all ++ (if (M.tb ov).went b a = 0 then [] else [(M.tb ov).went b a])).Perm (M.all ++ [a]) := by
  have h3 := h.2 b hb
  have hp := swap_pos (M.tb ov) b a (by cases ov; exact h.1.1 ▸ hb; exact h.1.2 ▸ hb) (fun e => by cases ov <;> simp only [Im.tb] at e <;> omega)
  rw [pos_one, if_pos h0] at hp
  rw [List.perm_iff_count] at hp ⊢
  intro x
  have g := hp x
  cases ov <;> simp only [Im.all, Im.put, Im.tb, List.count_append] at g ⊢ <;> omega
theorem drop_all (h : M.of n) (ov : Bool) (b k : Nat) (hk : b + k ≤ n) : ((M.laid ov (likes b 0 k)).all ++ M.gone ov (likes b 0 k)).Perm M.all := by
  have hp := likes_pos (M.tb ov) b k 0 (Int.le_refl _) (by cases ov; exact h.1 ▸ hk; exact h.2 ▸ hk)
  rw [List.perm_iff_count] at hp ⊢
  intro x
  have g := hp x
  cases ov <;> simp only [Im.all, Im.laid, Im.gone, Im.put, Im.tb, List.count_append] at g ⊢ <;> omega
theorem forget_all (h : M.of n) : (M.forget.all ++ M.forgot).Perm M.all := by
  have hp := likes_pos M.o 0 M.b.l.length (-1) (by decide) (by rw [h.1, h.2]; omega)
  rw [List.perm_iff_count] at hp ⊢
  intro x
  have g := hp x
  simp only [Im.all, Im.forget, Im.forgot, Im.laid, Im.gone, Im.put, Im.tb, List.count_append] at g ⊢
  omega
theorem forget_none (h : M.of n) : pos M.forget.o.l = [] := by
  unfold pos
  rw [List.filter_eq_nil_iff]
  intro x hx
  obtain ⟨j, hj⟩ := List.mem_iff_getElem?.1 hx
  have hjl := (List.getElem?_eq_some_iff.1 hj).1
  have e := forget_o h j (by have := (forget_of h).2; omega)
  rw [List.getD_eq_getElem?_getD, hj] at e
  simp at e
  simp [e]
theorem commit_all (h : MvI n i M) : (M.commit.all ++ M.went).Perm M.all := by
  have hp := pend_pos M.b M.o.l (by rw [h.1.1, h.1.2]) (fun j hj e => by have h3 := h.2 j (by rw [h.1.2] at hj; exact hj); have := h3.2.2 e; omega) M.o.l.length (Nat.le_refl _)
  rw [List.take_of_length_le (Nat.le_refl _)] at hp
  have e1 : M.commit.all = pos (M.b.lay (unt (placed M.o.l M.o.l.length))).1.l := by
    show pos M.commit.b.l ++ pos M.commit.o.l = _
    rw [show pos M.commit.o.l = [] from forget_none (stood_of h.1), List.append_nil]
    rfl
  rw [e1]
  exact hp
theorem all_le (h : MvI n i M) : ∀ x ∈ M.all, 1 ≤ x ∧ x ≤ i := by
  intro x hx
  rcases List.mem_append.1 hx with hx | hx
  · obtain ⟨h1, h2⟩ := pos_mem hx
    obtain ⟨j, hj⟩ := List.mem_iff_getElem?.1 h2
    have hjl := (List.getElem?_eq_some_iff.1 hj).1
    have h3 := h.2 j (by rw [h.1.1] at hjl; exact hjl)
    rw [List.getD_eq_getElem?_getD, hj] at h3
    simp at h3
    omega
  · obtain ⟨h1, h2⟩ := pos_mem hx
    obtain ⟨j, hj⟩ := List.mem_iff_getElem?.1 h2
    have hjl := (List.getElem?_eq_some_iff.1 hj).1
    have h3 := (h.2 j (by rw [h.1.2] at hjl; exact hjl)).2.1
    rw [List.getD_eq_getElem?_getD, hj] at h3
    simp at h3
    omega
end
theorem all_len {n : Nat} {M : Im} (h : M.of n) (hn : n ≤ 64) : M.all.length ≤ 128 := by
  have h1 := List.length_filter_le (fun x : Int => decide (0 < x)) M.b.l
  have h2 := List.length_filter_le (fun x : Int => decide (0 < x)) M.o.l
  unfold Im.all pos
  rw [List.length_append]
  have := h.1
  have := h.2
  omega
/-- What the law knows: which refs are told. -/
def Came (cm : List Bool) (L : Nat) (S : List Int) : Prop := cm.length = L + 2 ∧ ∀ r : Nat, r < L + 2 → cm.getD r false = decide ((r : Int) ∈ S)
theorem Came.perm {cm : List Bool} {L : Nat} {S T : List Int} (h : Came cm L S) (hp : S.Perm T) : Came cm L T := ⟨h.1, fun r hr => by rw [h.2 r hr]; simp [hp.mem_iff]⟩
theorem Came.add {cm : List Bool} {L : Nat} {S : List Int} (h : Came cm L S) (a : Nat) (ha : a < L + 2) : Came (cm.set a true) L (S ++ [(a : Int)]) := by
  refine ⟨by rw [List.length_set]; exact h.1, fun r hr => ?_⟩
  rw [List.getD_eq_getElem?_getD, List.getElem?_set]
  by_cases e : a = r
  · subst e
    rw [if_pos rfl, if_pos (by rw [h.1]; exact ha)]
    simp
  · rw [if_neg e, ← List.getD_eq_getElem?_getD, h.2 r hr]
    have : ¬ (r : Int) = (a : Int) := by omega
    simp [this]
theorem Came.take_ {cm : List Bool} {L : Nat} {T xs : List Int} {x : Int} (h : Came cm L (T ++ x :: xs)) (hn : (T ++ x :: xs).Nodup) (a : Nat) (ha : x = (a : Int)) (hl : a < L + 2) : cm[a]? = some true ∧ Came (cm.set a false) L (T ++ xs) := by
  have e := h.2 a hl
  have hal : a < cm.length := by rw [h.1]; exact hl
  constructor
  · rw [List.getD_eq_getElem?_getD, List.getElem?_eq_getElem hal] at e
    rw [List.getElem?_eq_getElem hal]
    simp [ha] at e
    rw [e]
  · refine ⟨by rw [List.length_set]; exact h.1, fun r hr => ?_⟩
    rw [List.getD_eq_getElem?_getD, List.getElem?_set]
    have hnd := List.nodup_append.1 hn
    by_cases e2 : a = r
    · subst e2
      rw [if_pos rfl, if_pos hal]
      have h1 : (a : Int) ∉ T := fun hm => hnd.2.2 _ hm _ (by rw [ha]; simp) rfl
      have h2 : (a : Int) ∉ xs := by have := (List.nodup_cons.1 hnd.2.1).1; rwa [ha] at this
      simp [h1, h2]
    · rw [if_neg e2, ← List.getD_eq_getElem?_getD, h.2 r hr]
      have : ¬ (r : Int) = x := by omega
      simp [this]
/-- The refs that are told. -/
theorem told_all {n : Nat} {M : Im} (h : M.of n) : ((refsL M).map (·.2)).Perm M.all := by
  have hm : ∀ (l : List Int) (m : Nat), m ≤ l.length → pos (l.take m) = (List.range m).flatMap fun j => pos [l.getD j 0] := fun l m => by
    induction m with
    | zero => intro _; simp [pos]
    | succ m ih =>
      intro hm
      rw [List.take_add_one, getD_of (by omega : m < l.length), List.range_succ, List.flatMap_append, pos_app, ih (by omega)]
      simp
  have hl : ∀ (l : List Int) (m : Nat), l.length = m → pos l = (List.range m).flatMap fun j => pos [l.getD j 0] := fun l m e => by
    have := hm l m (by omega)
    rwa [List.take_of_length_le (by omega)] at this
  have hr : ∀ (a x y : Int) (j : Nat), List.count a (List.map (fun x => x.2) (rfAt x y j)) = List.count a (pos [x]) + List.count a (pos [y]) := fun a x y j => by
    rw [pos_one, pos_one]
    unfold rfAt
    by_cases h1 : x > 0 <;> by_cases h2 : y > 0 <;> simp [h1, h2, List.count_cons] <;> omega
  rw [refsL_eq h, List.map_flatMap]
  unfold Im.all
  rw [hl _ n h.1, hl _ n h.2]
  generalize List.range n = js
  rw [List.perm_iff_count]
  intro a
  induction js with
  | nil => simp
  | cons j js ih =>
    simp only [List.flatMap_cons, List.count_append] at ih ⊢
    have := hr a (M.b.l.getD j 0) (M.o.l.getD j 0) j
    omega
end Go.Proofs.Ytfeepmahipecpaa.im
