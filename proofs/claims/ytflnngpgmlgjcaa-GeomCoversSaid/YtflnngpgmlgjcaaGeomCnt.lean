/- Counts, a number a sector: what is taken, and by whom. -/
import Derived.Test.YtflnngpgmlgjcaaGeomMore
namespace Go.Proofs.Ytflnngpgmlgjcaa.geom
open Go.RowKit Go.Proofs.Ytflnngpgmlgjcaa.mem Go.Proofs.Ytflnngpgmlgjcaa.base

/-- A row of so many numbers. -/
def Cnt (w : World) (g N : Nat) (f : Nat → Int) : Prop := ∃ cs : Array Value, Blk w g 3 cs ∧ cs.size = N ∧ ∀ i, i < N → cs[i]? = some (.int .i64 (f i))
section
variable {w w' : World} {g N : Nat} {f f' : Nat → Int}
theorem Cnt.kept {S : List Nat} (h : Cnt w g N f) (k : Kept S w w') (hg : g ∉ S := by simp) : Cnt w' g N f := by
  obtain ⟨cs, hb, hr⟩ := h
  exact ⟨cs, k.blk hb hg, hr⟩
theorem Cnt.congr (h : Cnt w g N f) (he : ∀ i, i < N → f i = f' i) : Cnt w g N f' := by
  obtain ⟨cs, hb, hz, hr⟩ := h
  exact ⟨cs, hb, hz, fun i hi => by rw [hr i hi, he i hi]⟩
theorem Cnt.drew (h : Cnt w g N f) : Cnt w.drew g N f := h
theorem Cnt.cell (h : Cnt w g N f) {i : Nat} (hi : i < N) : w.cell? ⟨g, i, none⟩ = some (.int .i64 (f i)) := by
  obtain ⟨cs, hb, _, hr⟩ := h
  rw [hb.cell]
  exact hr i hi
theorem Cnt.frozen (h : Cnt w g N f) (i : Nat) : w.frozen? ⟨g, i, none⟩ = false := by
  obtain ⟨cs, hb, _⟩ := h
  exact hb.frozen i
theorem Cnt.lt (h : Cnt w g N f) : g < w.heap.size := by
  obtain ⟨cs, hb, _⟩ := h
  exact hb.lt
theorem Cnt.set_ (h : Cnt w g N f) {i : Nat} (x : Int) : Cnt (w.setCell ⟨g, i, none⟩ (.int .i64 x)) g N (fun j => if j = i then x else f j) := by
  obtain ⟨cs, hb, hz, hr⟩ := h
  refine ⟨_, hb.set_ i (.int .i64 x), by simpa using hz, fun j hj => ?_⟩
  rw [Array.getElem?_setIfInBounds]
  show _ = some (Value.int .i64 (if j = i then x else f j))
  by_cases hji : i = j
  · subst hji
    rw [if_pos rfl, if_pos (by omega), if_pos rfl]
  · rw [if_neg hji, hr j hj, if_neg (by omega)]
end

/-- One more, from a place on. -/
def plus (f : Nat → Int) (a k : Nat) : Nat → Int := fun i => if a ≤ i ∧ i < a + k then f i + 1 else f i

set_option maxRecDepth 100000 in
set_option maxHeartbeats 1000000 in
theorem takes_ok (g N : Nat) (f : Nat → Int) (a k c : Nat) (w : World) (h : Cnt w g N f) (hN : N ≤ 10000) (hk : 1 ≤ k) (hak : a + k ≤ N) (hf : ∀ i, 0 ≤ f i ∧ f i ≤ 1000) :
    Calls Try.prog 32 #[.slice (some ⟨g, 0, none⟩) N c, .int .i64 a, .int .i64 k] w fun e w' => e = .returned (.bool true) ∧ Cnt w' g N (plus f a k) ∧ Kept [g] w w' := by
  have H := hide h
  have HF := hide hf
  clear h hf
  have e1 : (N : Int) - k ≥ a := by omega
  go_enter Try.func32, Try.ntmps32
  go_wp2
  go_loopw [7] (fun i wr => ∃ j : Nat, j ≤ k ∧ i = .int .i64 ((a : Int) + j) ∧ Hid (Cnt wr g N (plus f a j)) ∧ Hid (Kept [g] w wr)) (fun i wr => a + k - (intOf i).toNat)
  case atStart =>
    refine ⟨0, by omega, by simp, hide (H.out.congr fun i _ => ?_), hide (Kept.refl _ _)⟩
    unfold plus
    rw [if_neg (by omega)]
  case round =>
    obtain ⟨j, hj, rfl, HC, HK⟩ := hrel
    by_cases hlt : j < k
    · have e2 : (a : Int) + j = ((a + j : Nat) : Int) := by omega
      generalize hm : a + j = m at e2
      rw [e2]
      have hmN : m < N := by omega
      have hmk : (m : Int) < (a : Int) + k := by omega
      have hc := HC.out.cell hmN
      have hfz := HC.out.frozen m
      have hv : Hid (plus f a j m = f m) := hide (by unfold plus; rw [if_neg (by omega)])
      have hb := HF.out m
      rw [hv.out] at hc
      have hs : Hid (Cnt (wr.setCell ⟨g, m, none⟩ (.int .i64 (f m + 1))) g N (plus f a (j + 1))) := hide ((HC.out.set_ (i := m) (f m + 1)).congr fun i hi => by
        unfold plus
        by_cases him : i = m
        · subst him
          rw [if_pos rfl, if_pos (by omega)]
        · rw [if_neg him]
          by_cases h2 : a ≤ i ∧ i < a + j
          · rw [if_pos h2, if_pos (by omega)]
          · rw [if_neg h2, if_neg (by omega)])
      have hk2 := hide (HK.out.set_ (b := g) (.inl (by simp)) m (.int .i64 (f m + 1)))
      have E2 := hide e2
      clear hm e2
      go_wp2
      go_roundw
      case rel => exact ⟨j + 1, by omega, congrArg (Value.int .i64) (by have := E2.out; omega), hs, hk2⟩
      case measure => simp [intOf]; omega
    · obtain rfl : j = k := by omega
      go_wp2
      go_ret
      exact ⟨rfl, HC.out, HK.out⟩
end Go.Proofs.Ytflnngpgmlgjcaa.geom
