/- What the statement UsageTakes keeps: which are taken. Pure. -/
import Derived.Test.YtjcnndnipnkhoaaUsageAwakes
import Derived.Test.YtjcnndnipnkhoaaUsagePlaysM
import Derived.Test.YtjcnndnipnkhoaaUsageLivesM
namespace Go.Proofs.Ytjcnndnipnkhoaa.us
set_option linter.unusedSimpArgs false
open Go.RowKit Go.Proofs.Ytjcnndnipnkhoaa.mem Go.Proofs.Ytjcnndnipnkhoaa.base Go.Proofs.Ytjcnndnipnkhoaa.geom

/-- The table of which these are taken. -/
def mkT (tk : List Bool) : List Rw := tk.map fun b => if b = true then ⟨1, 0, 0⟩ else Rw.zero
def cellsB (l : List Bool) : Array Value := (l.map Value.bool).toArray
theorem cellsB_set (l : List Bool) (i : Nat) (x : Bool) : (cellsB l).setIfInBounds i (.bool x) = cellsB (l.set i x) := by
  unfold cellsB
  rw [List.setIfInBounds_toArray, List.map_set]
theorem cell_b {w : World} {g : Nat} {t : TypeId} {l : List Bool} (h : Blk w g t (cellsB l)) {i : Nat} {x : Bool} (hi : l[i]? = some x) : w.cell? ⟨g, i, none⟩ = some (.bool x) := by
  rw [h.cell]
  unfold cellsB
  simp [hi]
theorem mkT_len (tk : List Bool) : (mkT tk).length = tk.length := by simp [mkT]
theorem mkT_at {tk : List Bool} {k : Nat} {b : Bool} (h : tk[k]? = some b) : (mkT tk)[k]? = some (if b = true then ⟨1, 0, 0⟩ else Rw.zero) := by simp [mkT, h]
theorem mkT_state {tk : List Bool} {k : Nat} {b : Bool} (h : tk[k]? = some b) : (rowAt (mkT tk) k).s = if b = true then 1 else 0 := by
  rw [rowAt_yes (mkT_at h)]
  cases b <;> rfl
theorem mkT_new (m : Nat) : List.replicate m Rw.zero = mkT (List.replicate m false) := by simp [mkT]
theorem mkT_grabs {tk : List Bool} {k : Nat} {b : Bool} (h : tk[k]? = some b) : grabs (mkT tk) k = !b := by
  unfold grabs
  rw [isSeg_yes (mkT_at h), mkT_state h]
  cases b <;> rfl
theorem set_same_b {tk : List Bool} {k : Nat} {b : Bool} (h : tk[k]? = some b) : tk.set k b = tk := by
  apply List.ext_getElem?
  intro j
  rw [List.getElem?_set]
  split
  · rename_i e
    subst e
    rw [if_pos (List.getElem?_eq_some_iff.1 h).1, h]
  · rfl
theorem mkT_grab {tk : List Bool} {k : Nat} {b : Bool} (h : tk[k]? = some b) : grabOf (mkT tk) k = mkT (tk.set k true) := by
  unfold grabOf
  rw [upd_yes (mkT_at h)]
  have e : mkT (tk.set k true) = (mkT tk).set k ⟨1, 0, 0⟩ := by simp [mkT, List.map_set]
  rw [e]
  congr 1
  cases b <;> rfl
/-- Those that are free among the first so many. -/
theorem free_next {tk : List Bool} {k : Nat} {b : Bool} (h : tk[k]? = some b) : (inState (mkT tk) 0 (k + 1)).length = (inState (mkT tk) 0 k).length + (if b = true then 0 else 1) := by
  cases b
  · rw [inState_yes (mkT_at h) (by rfl), List.length_append]
    rfl
  · rw [inState_no (mkT_at h) (by simp)]
    rfl
/-- Of those that are free one is taken. -/
theorem filter_less {α : Type} [DecidableEq α] (p q : α → Bool) (l : List α) (hn : l.Nodup) (x : α) (hx : x ∈ l) (hp : p x = true) (hq : ∀ y, q y = (p y && decide (y ≠ x))) : (l.filter q).length + 1 = (l.filter p).length := by
  induction l with
  | nil => simp at hx
  | cons a l ih =>
    rw [List.nodup_cons] at hn
    by_cases e : a = x
    · subst e
      have hnot : ∀ y ∈ l, q y = p y := fun y hy => by
        rw [hq y]
        have : y ≠ a := fun e => hn.1 (e ▸ hy)
        simp [this]
      rw [List.filter_cons, if_neg (by rw [hq a]; simp), List.filter_cons, if_pos hp, List.length_cons, List.filter_congr hnot]
    · have hx' : x ∈ l := by
        rcases List.mem_cons.1 hx with h | h
        · exact absurd h.symm e
        · exact h
      have hqa : q a = p a := by rw [hq a]; simp [e]
      have := ih hn.2 hx'
      rw [List.filter_cons, List.filter_cons, hqa]
      split
      · rw [List.length_cons, List.length_cons]
        omega
      · exact this
theorem free_less {tk : List Bool} {k : Nat} (h : tk[k]? = some false) : (inState (mkT (tk.set k true)) 0 (mkT (tk.set k true)).length).length + 1 = (inState (mkT tk) 0 (mkT tk).length).length := by
  have hk := (List.getElem?_eq_some_iff.1 h).1
  unfold inState
  rw [List.length_map, List.length_map, mkT_len, mkT_len, List.length_set]
  refine (congrArg (· + 1) (congrArg List.length (List.filter_congr (q := fun i : Nat => decide ((rowAt (mkT tk) (i : Int)).s = 0) && decide (i ≠ k)) fun i hi => ?_))).trans (filter_less _ _ _ List.nodup_range k (by simpa using hk) ?_ fun y => rfl)
  · have hi : i < tk.length := by simpa using hi
    by_cases e : i = k
    · subst e
      rw [mkT_state (b := true) (by rw [List.getElem?_set, if_pos rfl, if_pos hk])]
      simp
    · rw [mkT_state (b := tk[i]) (by rw [List.getElem?_set, if_neg (by omega)]; exact List.getElem?_eq_getElem hi), mkT_state (b := tk[i]) (List.getElem?_eq_getElem hi)]
      simp [e]
  · rw [mkT_state h]
    rfl
/-- The first free one: free; all ahead of it are taken. -/
theorem first_free {rs : List Rw} {st : Int} : ∀ {n : Nat} {x : Int} {L : List Int}, inState rs st n = x :: L → ∃ k : Nat, x = k ∧ k < n ∧ (rowAt rs (k : Int)).s = st ∧ ∀ i : Nat, i < k → (rowAt rs (i : Int)).s ≠ st := by
  intro n
  induction n with
  | zero =>
    intro x L h
    simp [inState] at h
  | succ n ih =>
    intro x L h
    have e : inState rs st (n + 1) = inState rs st n ++ (if (rowAt rs (n : Int)).s = st then [(n : Int)] else []) := by
      unfold inState
      rw [List.range_succ, List.filter_append, List.map_append]
      congr 1
      by_cases hs : (rowAt rs (n : Int)).s = st <;> simp [hs]
    cases hL : inState rs st n with
    | cons y L' =>
      rw [e, hL, List.cons_append] at h
      injection h with h1 h2
      subst h1
      obtain ⟨k, hk1, hk2, hk3, hk4⟩ := ih hL
      exact ⟨k, hk1, by omega, hk3, hk4⟩
    | nil =>
      rw [e, hL, List.nil_append] at h
      split at h
      · rename_i hs
        injection h with h1 _
        refine ⟨n, h1.symm, by omega, hs, fun i hi hne => ?_⟩
        have : (i : Int) ∈ inState rs st n := by
          simp only [inState, List.mem_map, List.mem_filter, List.mem_range, decide_eq_true_eq]
          exact ⟨i, ⟨hi, hne⟩, rfl⟩
        rw [hL] at this
        simp at this
      · cases h
/-- What Take finds. -/
theorem next_case (tk : List Bool) (sp : Bool) : (nextOf (mkT tk) sp = -1 ∧ ((inState (mkT tk) 0 (mkT tk).length).length : Int) ≤ backOf sp) ∨
    (∃ k : Nat, nextOf (mkT tk) sp = k ∧ k < tk.length ∧ tk[k]? = some false ∧ (∀ i : Nat, i < k → tk[i]? = some true) ∧ backOf sp < ((inState (mkT tk) 0 (mkT tk).length).length : Int)) := by
  by_cases hn : ((inState (mkT tk) 0 (mkT tk).length).length : Int) ≤ backOf sp
  · exact .inl ⟨if_pos hn, hn⟩
  · cases hL : inState (mkT tk) 0 (mkT tk).length with
    | nil =>
      rw [hL] at hn
      exact absurd (by cases sp <;> simp [backOf]) hn
    | cons x L =>
      obtain ⟨k, rfl, hk2, hk3, hk4⟩ := first_free hL
      rw [mkT_len] at hk2
      have hb : ∀ i : Nat, i < tk.length → ∃ b, tk[i]? = some b := fun i hi => ⟨_, List.getElem?_eq_getElem hi⟩
      refine .inr ⟨k, ?_, hk2, ?_, fun i hi => ?_, by rw [hL] at hn; omega⟩
      · unfold nextOf
        rw [if_neg hn, hL]
        rfl
      · obtain ⟨b, hb⟩ := hb k hk2
        rw [mkT_state hb] at hk3
        cases b
        · exact hb
        · simp at hk3
      · obtain ⟨b, hb⟩ := hb i (by omega)
        have := hk4 i hi
        rw [mkT_state hb] at this
        cases b
        · simp at this
        · exact hb
theorem made_bools (m : Nat) (hm : m ≤ 1000) (w : World) :
    (Instr.makeSlice 51 (.int .i64 (m : Int)) (.int .i64 (m : Int))).run Try.prog w = .ok (.slice (some ⟨w.heap.size, 0, none⟩) m m) (w.alloc (.cells (cellsB (List.replicate m false)) 4)) := by
  unfold cellsB
  rw [List.map_replicate, ← toList_madeCells_one]
  exact run_make_row' (P := Try.prog) 51 4 (.bool false) 1 (by kernel_rfl) (by kernel_rfl) rfl .i64 .i64 m (by omega) (by omega) w
end Go.Proofs.Ytjcnndnipnkhoaa.us
