/- What the statement UsageLives counts: pure. -/
import Derived.Test.YtjcnndnipnkhoaaUsageAwakes
import Derived.Test.YtjcnndnipnkhoaaUsageRefC
namespace Go.Proofs.Ytjcnndnipnkhoaa.us
set_option linter.unusedSimpArgs false
open Go.RowKit Go.Proofs.Ytjcnndnipnkhoaa.mem Go.Proofs.Ytjcnndnipnkhoaa.base Go.Proofs.Ytjcnndnipnkhoaa.geom

/-- The array's cells. -/
def cellsI (l : List Int) : Array Value := (l.map I).toArray
theorem cellsI_set (l : List Int) (i : Nat) (x : Int) : (cellsI l).setIfInBounds i (.int .i64 x) = cellsI (l.set i x) := by
  unfold cellsI
  rw [List.setIfInBounds_toArray, List.map_set]
  rfl
theorem cell_i {w : World} {g : Nat} {t : TypeId} {l : List Int} (h : Blk w g t (cellsI l)) {i : Nat} {x : Int} (hi : l[i]? = some x) : w.cell? ⟨g, i, none⟩ = some (.int .i64 x) := by
  rw [h.cell]
  unfold cellsI
  simp [hi, I]
theorem held_one' {a W W' : World} {p : Addr} {x : Value} (h : Kept [] a W ∧ W.cell? p = some x) (k : Kept [] W W') : Kept [] a W' ∧ W'.cell? p = some x := ⟨h.1.trans k (by simp), k.cell h.2 (by simp)⟩
/-- Eight Sealed ones, so many live in each. -/
def mkL (ns : List Int) : List Rw := ns.map fun n => ⟨2, 0, n⟩
theorem mkL_len (ns : List Int) : (mkL ns).length = ns.length := by simp [mkL]
theorem mkL_at {ns : List Int} {k : Nat} {y : Int} (h : ns[k]? = some y) : (mkL ns)[k]? = some ⟨2, 0, y⟩ := by simp [mkL, h]
theorem mkL_set (ns : List Int) (k : Nat) (y : Int) : (mkL ns).set k ⟨2, 0, y⟩ = mkL (ns.set k y) := by simp [mkL, List.map_set]
def sealK (k : Nat) : List Rw := List.replicate k ⟨2, 0, 0⟩ ++ List.replicate (8 - k) Rw.zero
theorem seal_step (k : Nat) (hk : k < 8) : shutOf (grabOf (sealK k) k) k = sealK (k + 1) := by
  match k, hk with
  | 0, _ => decide
  | 1, _ => decide
  | 2, _ => decide
  | 3, _ => decide
  | 4, _ => decide
  | 5, _ => decide
  | 6, _ => decide
  | 7, _ => decide
theorem seal_none : List.replicate (8 : Int).toNat Rw.zero = sealK 0 := by decide
theorem seal_all : sealK 8 = mkL (List.replicate 8 0) := by decide
/-- What comes, less what goes, never below nothing. -/
def next (y by_ : Int) : Int := if y + by_ < 0 then 0 else y + by_
theorem live_in (r : Nat) (hr : r < 192) : addIn 8 24 2 1 (10 + r) := by unfold addIn; omega
theorem add_live (ns : List Int) (r : Nat) (hr : r < 192) (y by_ : Int) (hy : ns[r / 24]? = some y) (h1 : y ≤ 1000) (h2 : by_ ≤ 1) : addOf 8 24 2 1 (mkL ns) (10 + r) by_ = mkL (ns.set (r / 24) (next y by_)) := by
  unfold addOf
  rw [if_pos (live_in r hr), show ((10 + (r : Int) - (2 + 2 * 2 + 4 * 1)) / 24 : Int) = ((r / 24 : Nat) : Int) by omega, upd_yes (mkL_at hy), ← mkL_set]
  congr 1
  have e : least ⟨2, 0, y⟩ by_ = by_ := by
    unfold least
    rw [if_neg]
    simp only
    omega
  unfold Rw.plus next
  rw [e]
theorem rowAt_map {rs : List Rw} (f : Rw → Rw) {i : Nat} {x : Rw} (h : rs[i]? = some x) : rowAt (rs.map f) i = f x := rowAt_yes (by rw [List.getElem?_map, h]; rfl)
/-- Behind a Release there is none to release. -/
theorem dead_after (rs : List Rw) : deadIds (rs.map Rw.free) (rs.map Rw.free).length = [] := by
  unfold deadIds
  rw [List.map_eq_nil_iff, List.filter_eq_nil_iff]
  intro i hi
  have hi : i < rs.length := by simpa using hi
  rw [rowAt_map Rw.free (List.getElem?_eq_getElem hi)]
  generalize rs[i] = x
  unfold Rw.free
  cases hd : x.dead
  · simp [hd]
  · simp [Rw.dead]
/-- Where all are Sealed, those are Free behind a Release that it freed. -/
theorem free_after (rs : List Rw) (hs : ∀ x ∈ rs, x.s ≠ 0) : inState (rs.map Rw.free) 0 (rs.map Rw.free).length = deadIds rs rs.length := by
  unfold inState deadIds
  rw [List.length_map]
  congr 1
  apply List.filter_congr
  intro i hi
  have hi : i < rs.length := by simpa using hi
  rw [rowAt_map Rw.free (List.getElem?_eq_getElem hi), rowAt_yes (List.getElem?_eq_getElem hi)]
  have h0 := hs rs[i] (List.getElem_mem _)
  generalize rs[i] = x at *
  unfold Rw.free
  cases hd : x.dead
  · simp [h0]
  · simp
theorem mkL_dead {ns : List Int} {k : Nat} {y : Int} (h : ns[k]? = some y) : deadIds (mkL ns) (k + 1) = deadIds (mkL ns) k ++ (if y = 0 then [(k : Int)] else []) := by
  by_cases h0 : y = 0
  · rw [if_pos h0, dead_yes (mkL_at h) (by simp [Rw.dead, h0])]
  · rw [if_neg h0, dead_no (mkL_at h) (by simp [Rw.dead, h0]), List.append_nil]
theorem mkL_s (ns : List Int) : ∀ x ∈ mkL ns, x.s ≠ 0 := by
  intro x hx
  simp only [mkL, List.mem_map] at hx
  obtain ⟨n, _, rfl⟩ := hx
  simp
end Go.Proofs.Ytjcnndnipnkhoaa.us
