/- A slice of slices of numbers that came in. -/
import Derived.Test.YtjbdjdlmpcbakaaGreatQOpen
import Derived.Test.YtjbdjdlmpcbakaaGreatQShapes
import Derived.Deep.Matrix
namespace Go.Proofs.YtjbdjdlmpcbakaaGreat.sc
open Go.ChangeShapes Go.WideShapes Go.ChangeAt Go.RowKit Go.Deep Go.Proofs.YtjbdjdlmpcbakaaGreat.mem Go.Proofs.YtjbdjdlmpcbakaaGreat.base
/-- A slice that reads rows of numbers. -/
def KsAny (w : World) (A : Option Addr) (kss : List (List Int)) : Prop :=
  ∃ vs : List Value, vs.length = kss.length ∧ Vals w [] A vs ∧ ∀ (i : Nat) (ks : List Int), kss[i]? = some ks → ∃ Ai ci, vs[i]? = some (.slice Ai ks.length ci) ∧ Vals w [] Ai (ks.map I)
theorem KsAny.kept {w w' : World} {A : Option Addr} {kss : List (List Int)} (h : KsAny w A kss) (k : Kept [] w w') : KsAny w' A kss := by
  obtain ⟨vs, h1, h2, h3⟩ := h
  exact ⟨vs, h1, h2.kept k (by simp), fun i ks hb => by
    obtain ⟨Ai, ci, h4, h5⟩ := h3 i ks hb
    exact ⟨Ai, ci, h4, h5.kept k (by simp)⟩⟩
theorem KsAny.at_ {w : World} {A : Option Addr} {kss : List (List Int)} (h : KsAny w A kss) {i : Nat} {ks : List Int} (hb : kss[i]? = some ks) : ∃ ad Ai ci, A = some ad ∧ w.cell? (ad.add i) = some (.slice Ai ks.length ci) ∧ Vals w [] Ai (ks.map I) := by
  obtain ⟨vs, h1, h2, h3⟩ := h
  obtain ⟨Ai, ci, h4, h6⟩ := h3 i ks hb
  obtain ⟨ad, h7, _, h8⟩ := h2 i _ h4
  exact ⟨ad, Ai, ci, h7, h8, h6⟩

section
variable {H : Type} {enc : TypeId × Value → H} {w : World} {base : Nat} {held : Bool}
theorem kss_of {fuel : Nat} {v : Value} {x : DataW H × List MemPlace} (h : DataW.trod enc Tryz.prog w base (fun _ => true) held fuel 62 [v] = some x) :
    ∃ (L : Option Addr) (m d : Nat) (kss : List (List Int)), v = .slice L m d ∧ kss.length = m ∧ KsAny w L kss := by
  rcases Go.Deep.open_int_rows Tryz.underlying62 Tryz.underlying63 Tryz.underlying3 (by kernel_rfl) (by kernel_rfl) h with ⟨hcs, _⟩ | ⟨a, len, cap, A, Ln, C, Z, hcs, _, hl, hm, hx, hrow⟩
  · simp at hcs
    exact ⟨none, 0, 0, [], hcs, rfl, ⟨[], rfl, Vals.nil _ _ _, by simp⟩⟩
  · simp at hcs
    have hg : ∀ r, r < len → ((Z r).take (Ln r)).length = Ln r := by
      intro r hr
      obtain ⟨_, h1, _, h2, _⟩ := hrow r (by omega)
      simp
      omega
    refine ⟨some a, len, cap, (List.range len).map (fun r => (Z r).take (Ln r)), hcs, by simp, ⟨(List.range len).map (fun r => .slice (A r) (Ln r) (C r)), by simp, ?_, ?_⟩⟩
    · intro i v hv
      rw [List.getElem?_map] at hv
      obtain ⟨r, hr, rfl⟩ := Option.map_eq_some_iff.1 hv
      have hir : i = r ∧ i < len := by
        have := (List.getElem?_eq_some_iff.1 hr).1
        have h2 := (List.getElem?_eq_some_iff.1 hr).2
        simp at this h2
        exact ⟨h2, this⟩
      obtain ⟨rfl, hi⟩ := hir
      exact ⟨a, rfl, by simp, (hrow i (by omega)).1⟩
    · intro i ks hb2
      rw [List.getElem?_map] at hb2
      obtain ⟨r, hr, rfl⟩ := Option.map_eq_some_iff.1 hb2
      have hir : i = r ∧ i < len := by
        have := (List.getElem?_eq_some_iff.1 hr).1
        have h2 := (List.getElem?_eq_some_iff.1 hr).2
        simp at this h2
        exact ⟨h2, this⟩
      obtain ⟨rfl, hi⟩ := hir
      obtain ⟨_, h1, _, h2, hwz, h3, h4⟩ := hrow i (by omega)
      have hlen := hg i hi
      refine ⟨A i, C i, by rw [List.getElem?_map, hr, hlen]; rfl, ?_⟩
      intro j u hu
      have hj : j < Ln i ∧ j < (Z i).length := by
        have := (List.getElem?_eq_some_iff.1 hu).1
        simp at this
        omega
      cases hA : A i with
      | none => have := h3 hA; omega
      | some a' =>
        refine ⟨a', rfl, by simp, ?_⟩
        rw [(h4 a' hA).2 j (by omega)]
        simp only [List.getElem?_map, List.getElem?_take_of_lt hj.1, List.getElem?_eq_getElem hj.2, Option.map_some] at hu
        rw [List.getD_eq_getElem?_getD, List.getElem?_eq_getElem hj.2, ← hu]
        rfl
end
end Go.Proofs.YtjbdjdlmpcbakaaGreat.sc
