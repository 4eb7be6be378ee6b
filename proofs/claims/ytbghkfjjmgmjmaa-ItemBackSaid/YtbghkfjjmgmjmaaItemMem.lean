/- Items in memory: what a slice of them reads, what a block of them is. -/
import Derived.Test.YtbghkfjjmgmjmaaItemSmall
import Derived.Test.YtbghkfjjmgmjmaaFar
namespace Go.Proofs.Ytbghkfjjmgmjmaa.item
open Go.RowKit Go.Proofs.Ytbghkfjjmgmjmaa.mem Go.Proofs.Ytbghkfjjmgmjmaa.base Go.Proofs.Ytbghkfjjmgmjmaa.row Go.Proofs.Ytbghkfjjmgmjmaa.rowBack Go.Proofs.Ytbghkfjjmgmjmaa.fill

theorem add_field (a : Addr) (n j : Nat) (h : 0 < j) : a.add (n + j) = ⟨(a.add n).block, (a.add n).off + j, none⟩ := by
  rw [add_pos a (n + j) (by omega)]
  by_cases hn : n = 0
  · subst hn
    simp [Addr.add]
  · rw [add_pos a n (by omega)]
    simp [Nat.add_assoc]

/-- The four cells of an item, from an address on. -/
def ItAt (w : World) (q : Addr) (i : It) : Prop :=
  w.cell? q = some (.int .i64 i.k) ∧ w.cell? ⟨q.block, q.off + 1, none⟩ = some (.int .i64 i.b) ∧ w.cell? ⟨q.block, q.off + 2, none⟩ = some (.int .i64 i.c) ∧ w.cell? ⟨q.block, q.off + 3, none⟩ = some (.int .i64 i.v)
theorem ItAt.kept {w w' : World} {S : List Nat} {q : Addr} {i : It} (h : ItAt w q i) (k : Kept S w w') (hq : q.block ∉ S) : ItAt w' q i :=
  ⟨k.cell h.1 hq, k.cell h.2.1 hq, k.cell h.2.2.1 hq, k.cell h.2.2.2 hq⟩

/-- A slice that reads these items, none of its cells in blocks of S. -/
def Items (w : World) (S : List Nat) (L : Option Addr) (l : List It) : Prop := Vals w S L (valsOf l)
theorem Items.at_ {w : World} {S : List Nat} {L : Option Addr} {l : List It} (h : Items w S L l) {k : Nat} {i : It} (hk : l[k]? = some i) : ∃ ad, L = some ad ∧ (ad.add (k * 4)).block ∉ S ∧ ItAt w (ad.add (k * 4)) i := by
  have e : ∀ t, t < 4 → ∀ v, i.vals[t]? = some v → ∃ ad, L = some ad ∧ ad.block ∉ S ∧ w.cell? (ad.add (k * 4 + t)) = some v := fun t ht v hv =>
    h (k * 4 + t) v (by rw [Nat.mul_comm k 4, valsOf_at l k i hk t ht]; exact hv)
  obtain ⟨ad, rfl, hn, c0⟩ := e 0 (by omega) _ rfl
  obtain ⟨a1, h1, _, c1⟩ := e 1 (by omega) _ rfl
  obtain ⟨a2, h2, _, c2⟩ := e 2 (by omega) _ rfl
  obtain ⟨a3, h3, _, c3⟩ := e 3 (by omega) _ rfl
  cases h1; cases h2; cases h3
  refine ⟨ad, rfl, by rw [block_of_add]; exact hn, c0, ?_, ?_, ?_⟩
  · rw [← add_field ad _ 1 (by omega)]; exact c1
  · rw [← add_field ad _ 2 (by omega)]; exact c2
  · rw [← add_field ad _ 3 (by omega)]; exact c3
theorem Items.of {w : World} {S : List Nat} {L : Option Addr} {l : List It} (h : ∀ (k : Nat) (i : It), l[k]? = some i → ∃ ad, L = some ad ∧ ad.block ∉ S ∧ ItAt w (ad.add (k * 4)) i) : Items w S L l := by
  intro n v hv
  have hn : n < 4 * l.length := by
    have := (List.getElem?_eq_some_iff.1 hv).1
    rwa [valsOf_len] at this
  obtain ⟨k, t, rfl, ht⟩ : ∃ k t, n = 4 * k + t ∧ t < 4 := ⟨n / 4, n % 4, by omega, by omega⟩
  have hk : k < l.length := by omega
  obtain ⟨ad, rfl, hb, c0, c1, c2, c3⟩ := h k _ (List.getElem?_eq_getElem hk)
  rw [valsOf_at l k _ (List.getElem?_eq_getElem hk) t ht] at hv
  refine ⟨ad, rfl, hb, ?_⟩
  rw [Nat.mul_comm]
  match t, ht, hv with
  | 0, _, hv => cases hv; exact c0
  | 1, _, hv => cases hv; rw [add_field ad _ 1 (by omega)]; exact c1
  | 2, _, hv => cases hv; rw [add_field ad _ 2 (by omega)]; exact c2
  | 3, _, hv => cases hv; rw [add_field ad _ 3 (by omega)]; exact c3
theorem Items.kept {w w' : World} {S S' : List Nat} {L : Option Addr} {l : List It} (h : Items w S L l) (k : Kept S' w w') (hs : ∀ i ∈ S', i ∈ S) : Items w' S L l := Vals.kept h k hs
theorem Items.nil (w : World) (S : List Nat) (L : Option Addr) : Items w S L [] := Vals.nil _ _ _
/-- The first few of them. -/
theorem Items.first {w : World} {S : List Nat} {L : Option Addr} {l : List It} (h : Items w S L l) (j : Nat) : Items w S L (l.take j) := by
  have e : valsOf (l.take j) = (valsOf l).take (4 * j) := by
    by_cases hj : j ≤ l.length
    · conv => rhs; rw [← List.take_append_drop j l, valsOf_append]
      exact (List.take_left' (by rw [valsOf_len, List.length_take]; omega)).symm
    · rw [List.take_of_length_le (by omega), List.take_of_length_le (by rw [valsOf_len]; omega)]
  unfold Items
  rw [e]
  exact Vals.first h _
def It.cells (i : It) : Array Value := #[.int .i64 i.k, .int .i64 i.b, .int .i64 i.c, .int .i64 i.v]
theorem It.cell_at {w : World} {g : Nat} {i : It} (h : Blk w g 26 i.cells) : w.cell? ⟨g, 0, none⟩ = some (.int .i64 i.k) ∧ w.cell? ⟨g, 1, none⟩ = some (.int .i64 i.b) ∧ w.cell? ⟨g, 2, none⟩ = some (.int .i64 i.c) ∧ w.cell? ⟨g, 3, none⟩ = some (.int .i64 i.v) :=
  ⟨h.cell 0, h.cell 1, h.cell 2, h.cell 3⟩
theorem It.put_at {w : World} {g : Nat} {i : It} (k b c v : Int) (h : Blk w g 26 i.cells) :
    Blk ((((w.setCell ⟨g, 0, none⟩ (.int .i64 k)).setCell ⟨g, 1, none⟩ (.int .i64 b)).setCell ⟨g, 2, none⟩ (.int .i64 c)).setCell ⟨g, 3, none⟩ (.int .i64 v)) g 26 (It.cells ⟨k, b, c, v⟩) :=
  (((h.set_ 0 (.int .i64 k)).set_ 1 (.int .i64 b)).set_ 2 (.int .i64 c)).set_ 3 (.int .i64 v)
theorem It.put_kept {S : List Nat} {a w : World} {g : Nat} (k b c v : Int) (h : Kept S a w) (hg : g ∈ S ∨ a.heap.size ≤ g) :
    Kept S a ((((w.setCell ⟨g, 0, none⟩ (.int .i64 k)).setCell ⟨g, 1, none⟩ (.int .i64 b)).setCell ⟨g, 2, none⟩ (.int .i64 c)).setCell ⟨g, 3, none⟩ (.int .i64 v)) :=
  (((h.set_ hg 0 _).set_ hg 1 _).set_ hg 2 _).set_ hg 3 _
end Go.Proofs.Ytbghkfjjmgmjmaa.item
