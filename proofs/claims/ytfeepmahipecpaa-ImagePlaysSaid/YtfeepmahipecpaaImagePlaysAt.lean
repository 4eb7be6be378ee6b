/- ImagePlays: its acts as they came in; refs that may stand. -/
import Derived.Test.YtfeepmahipecpaaImageRefD
import Derived.Test.YtfeepmahipecpaaOpen
import Derived.Deep.Slices
import Derived.Deep.Fields
import Derived.ProofKit
import Derived.OpenShut
import Derived.ShutString
namespace Go.Proofs.Ytfeepmahipecpaa.im
set_option linter.unusedSimpArgs false
set_option linter.unusedVariables false
open Go.ChangeShapes Go.WideShapes Go.ChangeAt Go.RowKit Go.Deep Go.Proofs.Ytfeepmahipecpaa.mem Go.Proofs.Ytfeepmahipecpaa.base Go.Proofs.Ytfeepmahipecpaa.owns Go.Proofs.Ytfeepmahipecpaa.pd
section
variable {H : Type} {enc : TypeId × Value → H} {P : Program} {w : World} {base : Nat} {spare : Nat → Bool} {held : Bool}
/-- A slice of structs of one-cell fields: each field's cell, and what it reads as. -/
theorem slice_fields {t e : TypeId} {fs : Array Field} {fuel : Nat} {A : Option Addr} {len cap : Nat} {x : DataW H × List MemPlace} (ht : P.underlying t = some (.slice e)) (he : P.underlying e = some (.struct fs))
    (hone : oneCellFields P fs = true) (hC : P.cellsOf e = fs.size) (h : DataW.trod enc P w base spare held fuel t [.slice A len cap] = some x) :
    ∀ i, i < len → ∃ (a : Addr) (n : Nat), A = some a ∧ ∀ (j : Nat) (f : Field), fs[j]? = some f → ∃ (v : Value) (y : DataW H × List MemPlace), w.cell? (a.add (i * fs.size + j)) = some v ∧ DataW.trod enc P w base spare held n f.type [v] = some y := by
  intro i hi
  rcases open_slice ht h with ⟨h0, _⟩ | ⟨a, len', cap', m, n, D, Pl, hcs, hb, hl, hm, hmm, hx, hel⟩
  · simp at h0
    omega
  · simp at hcs
    obtain ⟨rfl, rfl, rfl⟩ := hcs
    have him : i < m := by
      rw [hmm]
      split <;> omega
    obtain ⟨cs', hc, ht'⟩ := hel i him
    rw [hC] at hc
    obtain ⟨ys, n', hn', hy, hlen, hyl, hf⟩ := DataW.trod_struct he ht'
    obtain ⟨_, hcl, hat⟩ := World.cells?_some hc
    refine ⟨a, n', rfl, fun j f hj => ?_⟩
    obtain ⟨ho, hk⟩ := hone_of hone j f hj
    have hjl : j < fs.size := (Array.getElem?_eq_some_iff.1 hj).1
    have hcell := hat j hjl
    have hv : cs'[j]? = some (cs'[j]'(by omega)) := List.getElem?_eq_getElem (by omega)
    have h1 := hf j f hj
    rw [ho, hk] at h1
    have hone' : (cs'.drop j).take 1 = [cs'[j]'(by omega)] := by
      rw [List.drop_eq_getElem_cons (by omega)]
      rfl
    rw [hone'] at h1
    have hys : ys[j]? = some (ys[j]'(by omega)) := List.getElem?_eq_getElem (by omega)
    exact ⟨_, _, by rw [← Go.Deep.add_add, hcell, hv], h1.trans hys⟩
end
section
variable {H : Type} {enc : TypeId × Value → H} {w : World} {base : Nat} {held : Bool}
theorem ints_of {fuel : Nat} {v : Value} {x : DataW H × List MemPlace} (h : DataW.trod enc Try.prog w base (fun _ => true) held fuel 29 [v] = some x) :
    ∃ (A : Option Addr) (l : List Int) (c : Nat), v = .slice A l.length c ∧ l.length ≤ c ∧ Vals w [] A (l.map I) := by
  rcases open_ints Try.underlying29 Try.underlying3 (by kernel_rfl) h with ⟨hcs, _⟩ | ⟨a, len, cap, zs, hcs, _, hl, hm, hz, _, hcell, hwz⟩
  · simp at hcs
    exact ⟨none, [], 0, hcs, Nat.le_refl _, Vals.nil _ _ _⟩
  · simp at hcs hz
    refine ⟨some a, zs.take len, cap, by rw [hcs, List.length_take, Nat.min_eq_left (by omega)], by rw [List.length_take]; omega, fun i u hu => ⟨a, rfl, by simp, ?_⟩⟩
    have hi : i < len ∧ i < zs.length := by
      have := (List.getElem?_eq_some_iff.1 hu).1
      simp at this
      omega
    rw [hcell i hi.2]
    simp only [List.getElem?_map, List.getElem?_take_of_lt hi.1, List.getElem?_eq_getElem hi.2, Option.map_some] at hu
    rw [List.getD_eq_getElem?_getD, List.getElem?_eq_getElem hi.2]
    exact hu
end
theorem add_field (a : Addr) (n j : Nat) (h : 0 < j) : a.add (n + j) = ⟨(a.add n).block, (a.add n).off + j, none⟩ := by
  rw [add_pos a (n + j) (by omega)]
  by_cases hn : n = 0
  · subst hn
    simp [Addr.add]
  · rw [add_pos a n (by omega)]
    simp [Nat.add_assoc]
theorem wf_i64 {n : Int} (h : (Lit.int .i64 n).wf = true) : -9223372036854775808 ≤ n ∧ n < 9223372036854775808 := by
  simp only [Lit.wf, IntKind.min, IntKind.max, IntKind.signed, IntKind.bits, Bool.and_eq_true, decide_eq_true_eq, if_true] at h
  omega
def ActAt (w : World) (q : Addr) : Prop :=
  ∃ (kd bb nn aa : Int) (ov : Bool) (LA : Option Addr) (l : List Int) (lc : Nat),
    (w.cell? q = some (.int .i64 kd) ∧ w.cell? ⟨q.block, q.off + 1, none⟩ = some (.int .i64 bb) ∧ w.cell? ⟨q.block, q.off + 2, none⟩ = some (.int .i64 nn) ∧ w.cell? ⟨q.block, q.off + 3, none⟩ = some (.int .i64 aa) ∧ w.cell? ⟨q.block, q.off + 4, none⟩ = some (.bool ov) ∧
    w.cell? ⟨q.block, q.off + 5, none⟩ = some (.slice LA l.length lc)) ∧ l.length ≤ lc ∧ (-9223372036854775808 ≤ bb ∧ bb ≤ 9223372036854775807) ∧ Vals w [] LA (l.map I)
theorem acts_of {H : Type} {enc : TypeId × Value → H} {w : World} {base : Nat} {held : Bool} {fuel : Nat} {L : Option Addr} {len cap : Nat} {x : DataW H × List MemPlace}
    (h : DataW.trod enc Try.prog w base (fun _ => true) held fuel 22 [.slice L len cap] = some x) : ∀ i, i < len → ∃ ad, L = some ad ∧ ActAt w (ad.add (i * 6)) := by
  intro i hi
  obtain ⟨a, n, rfl, hf⟩ := slice_fields Try.underlying22 Try.underlying31 (by kernel_rfl) (by kernel_rfl) h i hi
  obtain ⟨v0, y0, c0, t0⟩ := hf 0 _ rfl
  obtain ⟨v1, y1, c1, t1⟩ := hf 1 _ rfl
  obtain ⟨v2, y2, c2, t2⟩ := hf 2 _ rfl
  obtain ⟨v3, y3, c3, t3⟩ := hf 3 _ rfl
  obtain ⟨v4, y4, c4, t4⟩ := hf 4 _ rfl
  obtain ⟨v5, y5, c5, t5⟩ := hf 5 _ rfl
  obtain ⟨kd, e0, _, _⟩ := DataW.trod_int Try.underlying3 t0
  obtain ⟨bb, e1, _, wb⟩ := DataW.trod_int Try.underlying3 t1
  obtain ⟨nn, e2, _, _⟩ := DataW.trod_int Try.underlying3 t2
  obtain ⟨aa, e3, _, _⟩ := DataW.trod_int Try.underlying3 t3
  obtain ⟨ov, e4, _⟩ := DataW.trod_bool Try.underlying4 t4
  obtain ⟨LA, l, lc, rfl, hlc, hvl⟩ := ints_of t5
  have hb := wf_i64 wb
  simp at e0 e1 e2 e3 e4
  subst e0 e1 e2 e3 e4
  refine ⟨a, rfl, kd, bb, nn, aa, ov, LA, l, lc, ⟨c0, ?_, ?_, ?_, ?_, ?_⟩, hlc, ⟨hb.1, by omega⟩, hvl⟩
  · rw [← add_field a _ 1 (by omega)]; exact c1
  · rw [← add_field a _ 2 (by omega)]; exact c2
  · rw [← add_field a _ 3 (by omega)]; exact c3
  · rw [← add_field a _ 4 (by omega)]; exact c4
  · rw [← add_field a _ 5 (by omega)]; exact c5
/-- Refs that may stand, as members. -/
def GM (M : Im) : Prop := (∀ x ∈ M.b.l, 0 ≤ x) ∧ ∀ x ∈ M.o.l, -1 ≤ x
theorem getD_mem {l : List Int} {j : Nat} (h : j < l.length) : l.getD j 0 ∈ l := List.mem_of_getElem? (getD_of h)
theorem GM.gd {M : Im} (h : GM M) : Gd M := ⟨fun j hj => h.1 _ (getD_mem hj), fun j hj => h.2 _ (getD_mem hj)⟩
theorem swap_low {t : Tb} {c : Int} (b : Nat) (r : Int) (h : ∀ x ∈ t.l, c ≤ x) (hr : c ≤ r) : ∀ x ∈ (t.swap b r).l, c ≤ x := fun x hx => (List.mem_or_eq_of_mem_set hx).elim (h x) (fun e => by rw [e]; exact hr)
theorem lay_low {c : Int} : ∀ (xs : List (Nat × Int)) (s : Tb × List Int), (∀ x ∈ s.1.l, c ≤ x) → (∀ x ∈ xs, c ≤ x.2) → ∀ x ∈ (xs.foldl Tb.step s).1.l, c ≤ x
  | [], _, h, _ => h
  | y :: ys, s, h, hy => lay_low ys (Tb.step s y) (swap_low y.1 y.2 h (hy y (by simp))) (fun x hx => hy x (by simp [hx]))
section
variable {M : Im}
theorem GM.fresh (n : Nat) : GM (Im.fresh n) := ⟨fun x hx => by have := List.eq_of_mem_replicate hx; omega, fun x hx => by have := List.eq_of_mem_replicate hx; omega⟩
theorem GM.put (h : GM M) (ov : Bool) (b : Nat) (r : Int) (hr : 0 ≤ r) : GM (M.put ov ((M.tb ov).swap b r)) := by
  cases ov
  · exact ⟨swap_low b r h.1 hr, h.2⟩
  · exact ⟨h.1, swap_low b r h.2 (by omega)⟩
theorem GM.laid (h : GM M) (ov : Bool) (b n : Nat) : GM (M.laid ov (likes b 0 n)) := by
  cases ov
  · exact ⟨lay_low _ (M.b, []) h.1 (fun x hx => by have := (likes_mem hx).2.2; omega), h.2⟩
  · exact ⟨h.1, lay_low _ (M.o, []) h.2 (fun x hx => by have := (likes_mem hx).2.2; omega)⟩
theorem GM.forget (h : GM M) : GM M.forget := ⟨h.1, lay_low _ (M.o, []) h.2 (fun x hx => by have := (likes_mem hx).2.2; omega)⟩
theorem GM.commit (h : GM M) : GM M.commit := by
  have h1 : GM M.stood := ⟨lay_low _ (M.b, []) h.1 (fun x hx => by
    obtain ⟨hp, hn⟩ := List.mem_filter.1 hx
    obtain ⟨p1, p2⟩ := placed_mem hp
    have := h.2 (M.o.l.getD x.1 0) (getD_mem p1)
    rw [← p2] at this
    have hne : x.2 ≠ -1 := by simpa using hn
    omega), h.2⟩
  exact h1.forget
theorem GM.move (h : GM M) (b : Nat) (old a : Int) (ha : 1 ≤ a) : GM (M.move b old a).1 := by
  unfold Im.move
  split
  · exact ⟨swap_low b a h.1 (by omega), h.2⟩
  · split
    · exact ⟨h.1, swap_low b a h.2 (by omega)⟩
    · exact h
theorem GM.load (h : GM M) (ov : Bool) (k b : Nat) (xs : List Int) (hx : xs.all (okRef ov) = true) : GM (M.put ov ((M.tb ov).load k b xs)) := by
  have ho : ∀ x ∈ xs, least ov ≤ x := fun x hm => by
    have := List.all_eq_true.1 hx x hm
    unfold okRef at this
    exact (of_decide_eq_true this).1
  have key : ∀ (l : List Int) (c : Int), (∀ x ∈ l, c ≤ x) → (∀ x ∈ xs, c ≤ x) → ∀ x ∈ l.take b ++ (xs ++ l.drop (b + xs.length)), c ≤ x := fun l c h1 h2 x hm => by
    rcases List.mem_append.1 hm with hm | hm
    · exact h1 x (List.mem_of_mem_take hm)
    · rcases List.mem_append.1 hm with hm | hm
      · exact h2 x hm
      · exact h1 x (List.mem_of_mem_drop hm)
  cases ov
  · exact ⟨key _ _ h.1 ho, h.2⟩
  · exact ⟨h.1, key _ _ h.2 ho⟩
end
end Go.Proofs.Ytfeepmahipecpaa.im
