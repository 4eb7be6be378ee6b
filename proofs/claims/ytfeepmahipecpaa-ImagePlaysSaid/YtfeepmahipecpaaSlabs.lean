/- A slice that came in whose elements are structs, or arrays, of ints: each element's cells. -/
import Derived.Test.YtfeepmahipecpaaOpen
import Derived.Deep.Slices
import Derived.Deep.Fields
namespace Go.Proofs.Ytfeepmahipecpaa.base
open Go.ChangeShapes Go.WideShapes Go.ChangeAt Go.RowKit Go.Deep Go.Proofs.Ytfeepmahipecpaa.mem

/-- The rows of n ints that a slice reads. -/
def Slab (w : World) (n : Nat) (A : Option Addr) (l : List (List Int)) : Prop :=
  ∀ (i : Nat) (xs : List Int), l[i]? = some xs → xs.length = n ∧ ∃ a, A = some a ∧ ∀ (j : Nat) (y : Int), xs[j]? = some y → w.cell? (a.add (i * n + j)) = some (.int .i64 y)

section
variable {H : Type} {enc : TypeId × Value → H} {P : Program} {w : World} {base : Nat} {spare : Nat → Bool} {held : Bool}

/-- All cells of a struct whose fields are ints. -/
theorem struct_cells {e t : TypeId} {fs : Array Field} (ht : P.underlying t = some (.int .i64)) (he : P.underlying e = some (.struct fs)) (hone : oneCellFields P fs = true) (hi : ∀ f ∈ fs, f.type = t) (hC : P.cellsOf e = fs.size)
    (fuel : Nat) (cs : List Value) (x : DataW H × List MemPlace) (hl : cs.length = P.cellsOf e) (h : DataW.trod enc P w base spare held fuel e cs = some x) : ∀ (j : Nat) (v : Value), cs[j]? = some v → ∃ y, v = .int .i64 y := by
  obtain ⟨ys, n', hn', hy, hlen, hyl, hf⟩ := DataW.trod_struct he h
  intro j v hv
  have hj : j < cs.length := (List.getElem?_eq_some_iff.1 hv).1
  have hjf : j < fs.size := by omega
  have hfj : fs[j]? = some fs[j] := by simp [hjf]
  have h1 := hf j fs[j] hfj
  obtain ⟨ho, hk⟩ := hone_of hone j fs[j] hfj
  rw [ho, hk, List.drop_eq_getElem_cons hj, List.take_succ_cons, List.take_zero] at h1
  have hys : ys[j]? = some (ys[j]'(by omega)) := List.getElem?_eq_getElem (by omega)
  rw [hi fs[j] (by simp)] at h1
  obtain ⟨y, e1, _, _⟩ := DataW.trod_int ht (h1.trans hys)
  have e2 := (List.getElem?_eq_some_iff.1 hv).2
  simp only [List.cons.injEq, and_true] at e1
  exact ⟨y, by rw [← e2, e1]⟩

/-- All cells of an array of ints. -/
theorem array_cells {e t : TypeId} {n : Nat} (ht : P.underlying t = some (.int .i64)) (hc1 : P.cellsOf t = 1) (he : P.underlying e = some (.array n t)) (hC : P.cellsOf e = n)
    (fuel : Nat) (cs : List Value) (x : DataW H × List MemPlace) (hl : cs.length = P.cellsOf e) (h : DataW.trod enc P w base spare held fuel e cs = some x) : ∀ (j : Nat) (v : Value), cs[j]? = some v → ∃ y, v = .int .i64 y := by
  obtain ⟨ys, m, hm, hx, hlen, hyl, hf⟩ := DataW.trod_array he h
  intro j v hv
  have hj : j < cs.length := (List.getElem?_eq_some_iff.1 hv).1
  have h1 := hf j (by omega)
  rw [hc1, Nat.mul_one, List.drop_eq_getElem_cons hj, List.take_succ_cons, List.take_zero] at h1
  have hys : ys[j]? = some (ys[j]'(by omega)) := List.getElem?_eq_getElem (by omega)
  obtain ⟨y, e1, _, _⟩ := DataW.trod_int ht (h1.trans hys)
  have e2 := (List.getElem?_eq_some_iff.1 hv).2
  simp only [List.cons.injEq, and_true] at e1
  exact ⟨y, by rw [← e2, e1]⟩

theorem ints_list : ∀ (cs : List Value), (∀ (j : Nat) (v : Value), cs[j]? = some v → ∃ y, v = .int .i64 y) → ∃ xs : List Int, cs = xs.map I
  | [], _ => ⟨[], rfl⟩
  | c :: cs, h => by
    obtain ⟨y, rfl⟩ := h 0 c rfl
    obtain ⟨xs, rfl⟩ := ints_list cs (fun j v hv => h (j + 1) v (by simpa using hv))
    exact ⟨y :: xs, rfl⟩

theorem slab_of {t e : TypeId} {n fuel : Nat} {A : Option Addr} {len cap : Nat} {x : DataW H × List MemPlace} (ht : P.underlying t = some (.slice e)) (hC : P.cellsOf e = n)
    (hcells : ∀ (fuel : Nat) (cs : List Value) (x : DataW H × List MemPlace), cs.length = P.cellsOf e → DataW.trod enc P w base spare held fuel e cs = some x → ∀ (j : Nat) (v : Value), cs[j]? = some v → ∃ y, v = .int .i64 y)
    (h : DataW.trod enc P w base spare held fuel t [.slice A len cap] = some x) : ∃ l : List (List Int), l.length = len ∧ Slab w n A l ∧ len ≤ cap ∧ cap ≤ maxLen := by
  rcases open_slice ht h with ⟨h0, _⟩ | ⟨a, len', cap', m, n', D, Pl, hcs, hb, hl, hm, hmm, hx, hel⟩
  · simp at h0
    obtain ⟨rfl, rfl, rfl⟩ := h0
    exact ⟨[], rfl, fun i xs hx => by simp at hx, Nat.le_refl _, Nat.zero_le _⟩
  · simp at hcs
    obtain ⟨rfl, rfl, rfl⟩ := hcs
    have hex : ∀ i, ∃ xs : List Int, i < len → xs.length = n ∧ ∀ (j : Nat) (y : Int), xs[j]? = some y → w.cell? (a.add (i * n + j)) = some (.int .i64 y) := by
      intro i
      by_cases hi : i < len
      · have him : i < m := by rw [hmm]; split <;> omega
        obtain ⟨cs', hc, ht'⟩ := hel i him
        rw [hC] at hc
        obtain ⟨_, hcl, hat⟩ := World.cells?_some hc
        obtain ⟨xs, rfl⟩ := ints_list cs' (hcells _ cs' _ (by rw [hC]; exact hcl) ht')
        refine ⟨xs, fun _ => ⟨by simpa using hcl, fun j y hy => ?_⟩⟩
        have hj : j < n := by
          have := (List.getElem?_eq_some_iff.1 hy).1
          simp at hcl
          omega
        have := hat j hj
        rw [List.getElem?_map, hy] at this
        rw [← Go.Deep.add_add]
        exact this
      · exact ⟨[], fun h => absurd h hi⟩
    have hch := Classical.axiomOfChoice hex
    obtain ⟨f, hf⟩ := hch
    refine ⟨(List.range len).map f, by simp, fun i xs hxs => ?_, hl, hm⟩
    have hi : i < len := by
      have := (List.getElem?_eq_some_iff.1 hxs).1
      simpa using this
    simp [hi] at hxs
    subst hxs
    obtain ⟨h1, h2⟩ := hf i hi
    exact ⟨h1, a, rfl, h2⟩
end
end Go.Proofs.Ytfeepmahipecpaa.base
