/- What the statement UsageStates builds: pure. -/
import Derived.Test.YtjcnndnipnkhoaaUsageAwakes
import Derived.Test.YtjcnndnipnkhoaaUsageRefC
import Derived.Test.YtjcnndnipnkhoaaUsageLivesM
import Derived.Test.YtjcnndnipnkhoaaUsageUses
import Derived.Test.YtjcnndnipnkhoaaUsageAlike
import Derived.Deep.CutRange
namespace Go.Proofs.Ytjcnndnipnkhoaa.us
set_option linter.unusedSimpArgs false
open Go.RowKit Go.Proofs.Ytjcnndnipnkhoaa.mem Go.Proofs.Ytjcnndnipnkhoaa.base Go.Proofs.Ytjcnndnipnkhoaa.geom

/-- The uses that are built of two rows of numbers. -/
def mkS (xs ys : List Int) (m : Nat) : List Rw := (List.range m).map fun i : Nat => ⟨xs.getD i 0 % 3, ys.getD i 0 % 2147483647, 0⟩
theorem mkS_len (xs ys : List Int) (m : Nat) : (mkS xs ys m).length = m := by simp [mkS]
theorem mkS_at (xs ys : List Int) (m k : Nat) (hk : k < m) (x y : Int) (hx : xs[k]? = some x) (hy : ys[k]? = some y) : (mkS xs ys m)[k]? = some ⟨x % 3, y % 2147483647, 0⟩ := by
  unfold mkS
  rw [List.getElem?_map, List.getElem?_range hk]
  simp [hx, hy]
theorem mkS_plain (xs ys : List Int) (m : Nat) : plain (mkS xs ys m) := by
  intro z hz
  simp only [mkS, List.mem_map] at hz
  obtain ⟨i, _, rfl⟩ := hz
  rfl
theorem mkS_may (xs ys : List Int) (m : Nat) : allMay (mkS xs ys m) := by
  intro z hz
  simp only [mkS, List.mem_map] at hz
  obtain ⟨i, _, rfl⟩ := hz
  rw [mayUse_iff]
  simp only
  omega
/-- How many of the first so many are in each state. -/
def cntS (us : List Rw) (k : Nat) : List Int := [((inState us 0 k).length : Int), ((inState us 1 k).length : Int), ((inState us 2 k).length : Int)]
theorem cntS_len (us : List Rw) (k : Nat) : (cntS us k).length = 3 := rfl
theorem cntS_next {us : List Rw} {k j : Nat} {x : Rw} (h : us[k]? = some x) (hs : x.s = (j : Int)) (hj : j < 3) : (cntS us k)[j]? = some ((inState us j k).length : Int) ∧ (cntS us k).set j (((inState us j k).length : Int) + 1) = cntS us (k + 1) := by
  have hn : ∀ st : Int, st ≠ x.s → inState us st (k + 1) = inState us st k := fun st hst => inState_no h (fun e => hst e.symm)
  have hy : (inState us j (k + 1)).length = (inState us j k).length + 1 := by rw [inState_yes h hs]; simp
  match j, hj with
  | 0, _ =>
    have h1 := hn 1 (by omega)
    have h2 := hn 2 (by omega)
    simp at hy
    refine ⟨rfl, ?_⟩
    simp [cntS, h1, h2, hy]
  | 1, _ =>
    have h1 := hn 0 (by omega)
    have h2 := hn 2 (by omega)
    simp at hy
    refine ⟨rfl, ?_⟩
    simp [cntS, h1, h2, hy]
  | 2, _ =>
    have h1 := hn 0 (by omega)
    have h2 := hn 1 (by omega)
    simp at hy
    refine ⟨rfl, ?_⟩
    simp [cntS, h1, h2, hy]
theorem tell_false (us : List Rw) : us.map (tell false) = us := by
  have : tell false = id := by funext x; rfl
  rw [this, List.map_id]
/-- With none live, Release frees just the Sealed ones. -/
theorem plain_dead {us : List Rw} (h : plain us) : deadIds us us.length = inState us 2 us.length := by
  unfold deadIds inState
  congr 1
  apply List.filter_congr
  intro i hi
  have hi : i < us.length := by simpa using hi
  rw [rowAt_yes (List.getElem?_eq_getElem hi)]
  have := h us[i] (List.getElem_mem _)
  simp [Rw.dead, this]
theorem filter_sum {α : Type} (p q : α → Bool) (l : List α) (h : ∀ x ∈ l, ¬ (p x = true ∧ q x = true)) : (l.filter fun x => p x || q x).length = (l.filter p).length + (l.filter q).length := by
  induction l with
  | nil => rfl
  | cons a l ih =>
    have h0 := h a (by simp)
    have ih := ih (fun x hx => h x (by simp [hx]))
    cases hp : p a <;> cases hq : q a <;> simp_all [List.filter_cons] <;> omega
theorem plain_free {us : List Rw} (h : plain us) : (inState (us.map Rw.free) 0 (us.map Rw.free).length).length = (inState us 0 us.length).length + (inState us 2 us.length).length := by
  unfold inState
  rw [List.length_map, List.length_map, List.length_map, List.length_map, ← filter_sum _ _ _ (fun i _ h => by simp only [decide_eq_true_eq] at h; omega)]
  congr 1
  apply List.filter_congr
  intro i hi
  have hi : i < us.length := by simpa using hi
  rw [rowAt_map Rw.free (List.getElem?_eq_getElem hi), rowAt_yes (List.getElem?_eq_getElem hi)]
  have hz := h us[i] (List.getElem_mem _)
  generalize us[i] = x at *
  unfold Rw.free
  by_cases hs : x.s = 2
  · simp [Rw.dead, hs, hz]
  · have : x.dead = false := by simp [Rw.dead, hs]
    simp [this, hs]
end Go.Proofs.Ytjcnndnipnkhoaa.us
