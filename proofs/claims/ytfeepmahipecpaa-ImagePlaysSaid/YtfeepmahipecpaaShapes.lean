/- Values that come in whole: a struct, or an array, all of whose cells are ints. -/
import Derived.Test.YtfeepmahipecpaaOpen
import GoSem.ClaimWide
namespace Go.Proofs.Ytfeepmahipecpaa.base
open Go.RowKit Go.Proofs.Ytfeepmahipecpaa.mem

theorem cell_int {P : Program} {w : World} {r : Reach} {base : Nat} {u : TypeId} {k : IntKind} {v : Value} (hu : P.underlying u = some (.int k)) (h : Cell.okWide P w r base u v) : ∃ n, v = .int k n ∧ (Lit.int k n).wf = true := by
  unfold Cell.okWide at h
  rw [hu] at h
  unfold Cell.ok at h
  cases v <;> simp_all
  simp [Lit.wf, h.2.1, h.2.2]

theorem row_ints {P : Program} {w : World} {r : Reach} {base : Nat} {ti : TypeId} {ts : List TypeId} (hi : ∀ u ∈ ts, P.underlying u = some (.int .i64)) :
    ∀ (cs : List Value), (∀ (i : Nat) (v : Value), cs[i]? = some v → ∃ u, u ∈ ts ∧ Cell.okWide P w r base u v) → ∃ xs : List Int, cs = xs.map I ∧ ∀ x ∈ xs, (Lit.int .i64 x).wf = true
  | [], _ => ⟨[], rfl, by simp⟩
  | c :: cs, h => by
    obtain ⟨u, hu, hc⟩ := h 0 c rfl
    obtain ⟨n, rfl, hn⟩ := cell_int (hi u hu) hc
    obtain ⟨xs, rfl, hx⟩ := row_ints (ti := ti) hi cs (fun i v hv => h (i + 1) v (by simpa using hv))
    exact ⟨n :: xs, rfl, by simpa using ⟨hn, hx⟩⟩

/-- A struct or an array of so many ints. -/
theorem agg_ints {P : Program} {w : World} {r : Reach} {base : Nat} {t : TypeId} {v : Value} {ts : List TypeId} {n : Nat}
    (hu : ((match P.underlying t with | some (.struct _) | some (.array _ _) => true | _ => false) : Bool) = true) (hc : P.cellTypes P.depth t = some ts) (hi : ∀ u ∈ ts, P.underlying u = some (.int .i64))
    (hn : P.cellsOf t = n) (h : Value.okWide P w r base t v) : ∃ xs : List Int, v = .agg (xs.map I).toArray ∧ xs.length = n ∧ ∀ x ∈ xs, (Lit.int .i64 x).wf = true := by
  have h' : ∃ cs : Array Value, v = .agg cs ∧ cs.size = P.cellsOf t ∧ Row.okWide P w r base t cs := by
    unfold Value.okWide at h
    revert hu h
    cases P.underlying t with
    | none => simp
    | some u => cases u <;> simp
  obtain ⟨cs, rfl, hs, ts', ht, ⟨_, _⟩, hcs⟩ := h'
  obtain rfl : ts = ts' := by rw [hc] at ht; injection ht
  obtain ⟨xs, hx, hw⟩ := row_ints (P := P) (w := w) (r := r) (base := base) (ti := 0) hi cs.toList (fun i v hv => by
    obtain ⟨u, hu, hk⟩ := hcs i v (by simpa using hv)
    exact ⟨u, List.mem_of_getElem? hu, hk⟩)
  refine ⟨xs, ?_, ?_, hw⟩
  · rw [← hx]
  · rw [← hn, ← hs, ← Array.length_toList, hx, List.length_map]

theorem list1 {xs : List Int} (h : xs.length = 1) : ∃ a0 : Int, xs = [a0] := by
  match xs, h with
  | [a0], _ => exact ⟨a0, rfl⟩
theorem list2 {xs : List Int} (h : xs.length = 2) : ∃ a0 a1 : Int, xs = [a0, a1] := by
  match xs, h with
  | [a0, a1], _ => exact ⟨a0, a1, rfl⟩
theorem list3 {xs : List Int} (h : xs.length = 3) : ∃ a0 a1 a2 : Int, xs = [a0, a1, a2] := by
  match xs, h with
  | [a0, a1, a2], _ => exact ⟨a0, a1, a2, rfl⟩
theorem list4 {xs : List Int} (h : xs.length = 4) : ∃ a0 a1 a2 a3 : Int, xs = [a0, a1, a2, a3] := by
  match xs, h with
  | [a0, a1, a2, a3], _ => exact ⟨a0, a1, a2, a3, rfl⟩
theorem list5 {xs : List Int} (h : xs.length = 5) : ∃ a0 a1 a2 a3 a4 : Int, xs = [a0, a1, a2, a3, a4] := by
  match xs, h with
  | [a0, a1, a2, a3, a4], _ => exact ⟨a0, a1, a2, a3, a4, rfl⟩
theorem list6 {xs : List Int} (h : xs.length = 6) : ∃ a0 a1 a2 a3 a4 a5 : Int, xs = [a0, a1, a2, a3, a4, a5] := by
  match xs, h with
  | [a0, a1, a2, a3, a4, a5], _ => exact ⟨a0, a1, a2, a3, a4, a5, rfl⟩
theorem list7 {xs : List Int} (h : xs.length = 7) : ∃ a0 a1 a2 a3 a4 a5 a6 : Int, xs = [a0, a1, a2, a3, a4, a5, a6] := by
  match xs, h with
  | [a0, a1, a2, a3, a4, a5, a6], _ => exact ⟨a0, a1, a2, a3, a4, a5, a6, rfl⟩
theorem list8 {xs : List Int} (h : xs.length = 8) : ∃ a0 a1 a2 a3 a4 a5 a6 a7 : Int, xs = [a0, a1, a2, a3, a4, a5, a6, a7] := by
  match xs, h with
  | [a0, a1, a2, a3, a4, a5, a6, a7], _ => exact ⟨a0, a1, a2, a3, a4, a5, a6, a7, rfl⟩
theorem list9 {xs : List Int} (h : xs.length = 9) : ∃ a0 a1 a2 a3 a4 a5 a6 a7 a8 : Int, xs = [a0, a1, a2, a3, a4, a5, a6, a7, a8] := by
  match xs, h with
  | [a0, a1, a2, a3, a4, a5, a6, a7, a8], _ => exact ⟨a0, a1, a2, a3, a4, a5, a6, a7, a8, rfl⟩
theorem list10 {xs : List Int} (h : xs.length = 10) : ∃ a0 a1 a2 a3 a4 a5 a6 a7 a8 a9 : Int, xs = [a0, a1, a2, a3, a4, a5, a6, a7, a8, a9] := by
  match xs, h with
  | [a0, a1, a2, a3, a4, a5, a6, a7, a8, a9], _ => exact ⟨a0, a1, a2, a3, a4, a5, a6, a7, a8, a9, rfl⟩
theorem list11 {xs : List Int} (h : xs.length = 11) : ∃ a0 a1 a2 a3 a4 a5 a6 a7 a8 a9 a10 : Int, xs = [a0, a1, a2, a3, a4, a5, a6, a7, a8, a9, a10] := by
  match xs, h with
  | [a0, a1, a2, a3, a4, a5, a6, a7, a8, a9, a10], _ => exact ⟨a0, a1, a2, a3, a4, a5, a6, a7, a8, a9, a10, rfl⟩
theorem list12 {xs : List Int} (h : xs.length = 12) : ∃ a0 a1 a2 a3 a4 a5 a6 a7 a8 a9 a10 a11 : Int, xs = [a0, a1, a2, a3, a4, a5, a6, a7, a8, a9, a10, a11] := by
  match xs, h with
  | [a0, a1, a2, a3, a4, a5, a6, a7, a8, a9, a10, a11], _ => exact ⟨a0, a1, a2, a3, a4, a5, a6, a7, a8, a9, a10, a11, rfl⟩
theorem agg3 {P : Program} {w : World} {r : Reach} {base : Nat} {t : TypeId} {v : Value} {ts : List TypeId}
    (hu : ((match P.underlying t with | some (.struct _) | some (.array _ _) => true | _ => false) : Bool) = true) (hc : P.cellTypes P.depth t = some ts) (hi : ∀ u ∈ ts, P.underlying u = some (.int .i64))
    (hn : P.cellsOf t = 3) (h : Value.okWide P w r base t v) : ∃ a b c : Int, v = .agg #[.int .i64 a, .int .i64 b, .int .i64 c] ∧ (Lit.int .i64 a).wf = true ∧ (Lit.int .i64 b).wf = true ∧ (Lit.int .i64 c).wf = true := by
  obtain ⟨xs, rfl, hl, hw⟩ := agg_ints hu hc hi hn h
  match xs, hl with
  | [a, b, c], _ => exact ⟨a, b, c, rfl, hw a (by simp), hw b (by simp), hw c (by simp)⟩
end Go.Proofs.Ytfeepmahipecpaa.base
