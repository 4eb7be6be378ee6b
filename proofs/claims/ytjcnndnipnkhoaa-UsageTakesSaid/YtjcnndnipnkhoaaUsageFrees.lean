/- What Release frees: pure. And cells of new uses. -/
import Derived.Test.YtjcnndnipnkhoaaUsageIter
namespace Go.Proofs.Ytjcnndnipnkhoaa.us
set_option linter.unusedSimpArgs false
open Go.RowKit Go.Proofs.Ytjcnndnipnkhoaa.mem Go.Proofs.Ytjcnndnipnkhoaa.base Go.Proofs.Ytjcnndnipnkhoaa.geom

/-- A segment of which nothing is live is freed. -/
def Rw.free (x : Rw) : Rw := if x.dead = true then ⟨0, x.t, x.n⟩ else x
def relRows (rs : List Rw) (pre : List Int) : List Rw := pre.foldl (fun rs x => upd rs x Rw.free) rs
def relIds (rs : List Rw) (pre : List Int) : List Int := pre.filter fun x => (rowAt rs x).dead
/-- Those that Release frees, among the first so many. -/
def deadIds (rs : List Rw) (k : Nat) : List Int := ((List.range k).filter fun i : Nat => (rowAt rs (i : Int)).dead).map fun i : Nat => (i : Int)
theorem Rw.dead_s {x : Rw} (h : x.dead = true) : x.s = 2 := by
  simp only [Rw.dead, Bool.and_eq_true, decide_eq_true_eq] at h
  exact h.1
theorem Rw.free_good {x : Rw} (h : x.good) : x.free.good := by
  unfold Rw.free
  split
  · exact ⟨by simp, h.2.1, h.2.2⟩
  · exact h
theorem relRows_snoc (rs : List Rw) (pre : List Int) (x : Int) : relRows rs (pre ++ [x]) = upd (relRows rs pre) x Rw.free := by simp [relRows]
theorem relIds_snoc (rs : List Rw) (pre : List Int) (x : Int) : relIds rs (pre ++ [x]) = relIds rs pre ++ (if (rowAt rs x).dead = true then [x] else []) := by
  unfold relIds
  rw [List.filter_append]
  congr 1
  cases h : (rowAt rs x).dead <;> simp [h]
theorem upd_at (rs : List Rw) (i : Int) (f : Rw → Rw) (k : Nat) : (upd rs i f)[k]? = if i = (k : Int) then (rs[k]?).map f else rs[k]? := by
  rcases seg_cases rs i with ⟨j, x, rfl, hx⟩ | h
  · rw [upd_yes hx, List.getElem?_set]
    by_cases e : j = k
    · subst e
      rw [if_pos rfl, if_pos rfl, if_pos (List.getElem?_eq_some_iff.1 hx).1, hx]
      rfl
    · rw [if_neg e, if_neg (by omega)]
  · rw [upd_no h]
    split
    · rename_i e
      rw [List.getElem?_eq_none (by omega)]
      rfl
    · rfl
theorem relRows_len (rs : List Rw) (pre : List Int) : (relRows rs pre).length = rs.length := by
  induction pre generalizing rs with
  | nil => rfl
  | cons y pre ih =>
    show (relRows (upd rs y Rw.free) pre).length = _
    rw [ih, upd_len]
theorem relRows_above (rs : List Rw) (pre : List Int) (i : Nat) (h : ∀ y ∈ pre, y < (i : Int)) : (relRows rs pre)[i]? = rs[i]? := by
  induction pre generalizing rs with
  | nil => rfl
  | cons y pre ih =>
    show (relRows (upd rs y Rw.free) pre)[i]? = _
    rw [ih _ (fun z hz => h z (by simp [hz])), upd_at, if_neg (by have := h y (by simp); omega)]
theorem relRows_to (rs : List Rw) (k : Nat) (hk : k ≤ rs.length) (i : Nat) : (relRows rs (inState rs 2 k))[i]? = if i < k then (rs[i]?).map Rw.free else rs[i]? := by
  induction k with
  | zero => simp [inState, relRows]
  | succ k ih =>
    obtain ⟨x, hx⟩ : ∃ x, rs[k]? = some x := ⟨_, List.getElem?_eq_getElem (by omega)⟩
    by_cases hs : x.s = 2
    · rw [inState_yes hx hs, relRows_snoc, upd_at, ih (by omega)]
      by_cases e : i = k
      · subst e
        simp
      · rw [if_neg (by omega)]
        by_cases hlt : i < k
        · rw [if_pos hlt, if_pos (by omega)]
        · rw [if_neg hlt, if_neg (by omega)]
    · rw [inState_no hx hs, ih (by omega)]
      by_cases e : i = k
      · subst e
        rw [if_neg (by omega), if_pos (by omega), hx]
        have : x.dead = false := by simp [Rw.dead, hs]
        simp [Rw.free, this]
      · by_cases hlt : i < k
        · rw [if_pos hlt, if_pos (by omega)]
        · rw [if_neg hlt, if_neg (by omega)]
theorem relRows_all (rs : List Rw) : relRows rs (inState rs 2 rs.length) = rs.map Rw.free := by
  apply List.ext_getElem?
  intro i
  rw [relRows_to rs _ (Nat.le_refl _), List.getElem?_map]
  split
  · rfl
  · rw [List.getElem?_eq_none (by omega)]
    rfl
theorem relIds_all (rs : List Rw) : relIds rs (inState rs 2 rs.length) = deadIds rs rs.length := by
  unfold relIds inState deadIds
  rw [List.filter_map, List.filter_filter]
  congr 1
  apply List.filter_congr
  intro i _
  simp only [Function.comp]
  cases hd : (rowAt rs (i : Int)).dead
  · simp
  · simp [Rw.dead_s hd]


theorem made_use (m : Nat) : madeCells #[.int .i64 0, .int .i64 0] (m * 2) = (usesOf (List.replicate m Rw.zero)).toArray := by
  have h0 : ∀ n : Nat, n < 2 → ([.int .i64 0, .int .i64 0] : List Value)[n]?.getD default = .int .i64 0 := by
    intro n hn
    match n, hn with
    | 0, _ => rfl
    | 1, _ => rfl
  have hv : usesOf (List.replicate m Rw.zero) = List.replicate (m * 2) (.int .i64 0) := by
    induction m with
    | zero => rfl
    | succ m ih => rw [List.replicate_succ, show (m + 1) * 2 = m * 2 + 1 + 1 by omega, List.replicate_succ, List.replicate_succ, ← ih]; rfl
  rw [hv]
  apply Array.ext
  · simp [madeCells]
  · intro i h1 h2
    simp [madeCells, h0 (i % 2) (Nat.mod_lt _ (by omega))]
theorem made_seg (m : Nat) : madeCells #[.int .i64 0, .int .i64 0, .int .i64 0] (m * 3) = (segsOf (List.replicate m Rw.zero)).toArray := by
  have h0 : ∀ n : Nat, n < 3 → ([.int .i64 0, .int .i64 0, .int .i64 0] : List Value)[n]?.getD default = .int .i64 0 := by
    intro n hn
    match n, hn with
    | 0, _ => rfl
    | 1, _ => rfl
    | 2, _ => rfl
  have hv : segsOf (List.replicate m Rw.zero) = List.replicate (m * 3) (.int .i64 0) := by
    induction m with
    | zero => rfl
    | succ m ih => rw [List.replicate_succ, show (m + 1) * 3 = m * 3 + 1 + 1 + 1 by omega, List.replicate_succ, List.replicate_succ, List.replicate_succ, ← ih]; rfl
  rw [hv]
  apply Array.ext
  · simp [madeCells]
  · intro i h1 h2
    simp [madeCells, h0 (i % 3) (Nat.mod_lt _ (by omega))]

theorem use_info : (Try.prog.info? 61).map (fun i => (i.zero, i.size, i.bytes)) = some (some (.agg #[.int .i64 0, .int .i64 0]), 2, 16) := by kernel_rfl
theorem seg_info : (Try.prog.info? 76).map (fun i => (i.zero, i.size, i.bytes)) = some (some (.agg #[.int .i64 0, .int .i64 0, .int .i64 0]), 3, 24) := by kernel_rfl
theorem made_uses (m : Nat) (hm : m ≤ 1000) (w : World) :
    (Instr.makeSlice 23 (.int .i64 (m : Int)) (.int .i64 (m : Int))).run Try.prog w = .ok (.slice (some ⟨w.heap.size, 0, none⟩) m m) (w.alloc (.cells (usesOf (List.replicate m Rw.zero)).toArray 61)) := by
  obtain ⟨i, hi, hzz⟩ := Option.map_eq_some_iff.1 use_info
  simp only [Prod.mk.injEq] at hzz
  obtain ⟨hz, hs, hb⟩ := hzz
  have hr := run_make (P := Try.prog) w 23 61 i _ Try.underlying23 hi hz .i64 .i64 m m (by omega) (Int.le_refl _) (by rw [hb]; omega) (by omega)
  rw [hs, Int.toNat_natCast] at hr
  rw [← made_use]
  exact hr
theorem made_segs (m : Nat) (hm : m ≤ 1000) (w : World) :
    (Instr.makeSlice 72 (.int .i64 (m : Int)) (.int .i64 (m : Int))).run Try.prog w = .ok (.slice (some ⟨w.heap.size, 0, none⟩) m m) (w.alloc (.cells (segsOf (List.replicate m Rw.zero)).toArray 76)) := by
  obtain ⟨i, hi, hzz⟩ := Option.map_eq_some_iff.1 seg_info
  simp only [Prod.mk.injEq] at hzz
  obtain ⟨hz, hs, hb⟩ := hzz
  have hr := run_make (P := Try.prog) w 72 76 i _ Try.underlying72 hi hz .i64 .i64 m m (by omega) (Int.le_refl _) (by rw [hb]; omega) (by omega)
  rw [hs, Int.toNat_natCast] at hr
  rw [← made_seg]
  exact hr

theorem add_next (a : Addr) (n : Nat) : a.add (n + 1) = ⟨(a.add n).block, (a.add n).off + 1, none⟩ := by
  rw [add_pos a (n + 1) (by omega)]
  by_cases hn : n = 0
  · subst hn
    simp [Addr.add]
  · rw [add_pos a n (by omega)]
    simp [Nat.add_assoc]
/-- A slice that reads these uses. -/
theorem uses_at {w : World} {S : List Nat} {A : Option Addr} {us : List Rw} (h : Vals w S A (usesOf us)) {k : Nat} {x : Rw} (hk : us[k]? = some x) :
    ∃ ad, A = some ad ∧ ad.block ∉ S ∧ w.cell? (ad.add (k * 2)) = some (.int .i64 x.s) ∧ w.cell? ⟨(ad.add (k * 2)).block, (ad.add (k * 2)).off + 1, none⟩ = some (.int .i64 x.t) := by
  obtain ⟨ad, rfl, hn, c0⟩ := h (k * 2 + 0) _ (by unfold usesOf; rw [flat_get Rw.use 2 Rw.use_len us k 0 (by omega) x hk]; rfl)
  obtain ⟨a1, h1, _, c1⟩ := h (k * 2 + 1) _ (by unfold usesOf; rw [flat_get Rw.use 2 Rw.use_len us k 1 (by omega) x hk]; rfl)
  cases h1
  exact ⟨ad, rfl, hn, c0, by rw [← add_next]; exact c1⟩
theorem usesOf_len (us : List Rw) : (usesOf us).length = 2 * us.length := flat_len Rw.use 2 Rw.use_len us
theorem take_snoc {us : List Rw} {k : Nat} {x : Rw} (h : us[k]? = some x) : us.take (k + 1) = us.take k ++ [x] := by rw [List.take_add_one, h]; rfl
theorem take_len {us : List Rw} {k m : Nat} (h : us.length = m) (hk : k ≤ m) : (us.take k).length = k := by rw [List.length_take, h]; omega
theorem part_at {us : List Rw} {k m : Nat} (h : us.length = m) (hk : k < m) : (us.take k ++ List.replicate (m - k) Rw.zero)[k]? = some Rw.zero := by
  have hl := take_len h (Nat.le_of_lt hk)
  rw [List.getElem?_append_right (by omega), hl, Nat.sub_self, List.getElem?_replicate, if_pos (by omega)]
theorem part_set {us : List Rw} {k m : Nat} (h : us.length = m) (hk : k < m) {x : Rw} (hx : us[k]? = some x) : (us.take k ++ List.replicate (m - k) Rw.zero).set k x = us.take (k + 1) ++ List.replicate (m - (k + 1)) Rw.zero := by
  have hl := take_len h (Nat.le_of_lt hk)
  rw [take_snoc hx, List.set_append, hl, if_neg (by omega), Nat.sub_self, show m - k = (m - (k + 1)) + 1 by omega, List.replicate_succ, List.set_cons_zero, List.append_assoc]
  rfl
/-- Two cells of a row are put. -/
theorem segs_put {w : World} {g : Nat} {t : TypeId} {us : List Rw} {k m : Nat} (hb : Blk w g t (segsOf (us.take k ++ List.replicate (m - k) Rw.zero)).toArray) (h : us.length = m) (hk : k < m) {x : Rw} (hx : us[k]? = some x) (hn : x.n = 0) :
    Blk ((w.setCell ⟨g, k * 3, none⟩ (.int .i64 x.s)).setCell ⟨g, k * 3 + 1, none⟩ (.int .i64 x.t)) g t (segsOf (us.take (k + 1) ++ List.replicate (m - (k + 1)) Rw.zero)).toArray := by
  have := (hb.set_ (k * 3) (.int .i64 x.s)).set_ (k * 3 + 1) (.int .i64 x.t)
  rw [List.setIfInBounds_toArray, List.setIfInBounds_toArray] at this
  unfold segsOf at this
  have hz := part_at h hk
  have h1 := flat_set Rw.vals 3 Rw.vals_len _ k 0 (by omega) Rw.zero ⟨x.s, 0, 0⟩ hz (.int .i64 x.s) rfl
  simp only [Nat.add_zero] at h1
  rw [h1, flat_set Rw.vals 3 Rw.vals_len _ k 1 (by omega) ⟨x.s, 0, 0⟩ x (by rw [List.getElem?_set, if_pos rfl, if_pos (List.getElem?_eq_some_iff.1 hz).1]) (.int .i64 x.t) (by show Rw.vals x = _; unfold Rw.vals; rw [hn]; rfl), List.set_set, part_set h hk hx] at this
  exact this
theorem uses_put {w : World} {g : Nat} {t : TypeId} {us : List Rw} {k m : Nat} (hb : Blk w g t (usesOf (us.take k ++ List.replicate (m - k) Rw.zero)).toArray) (h : us.length = m) (hk : k < m) {x : Rw} (hx : us[k]? = some x) :
    Blk ((w.setCell ⟨g, k * 2, none⟩ (.int .i64 x.s)).setCell ⟨g, k * 2 + 1, none⟩ (.int .i64 x.t)) g t (usesOf (us.take (k + 1) ++ List.replicate (m - (k + 1)) Rw.zero)).toArray := by
  have := (hb.set_ (k * 2) (.int .i64 x.s)).set_ (k * 2 + 1) (.int .i64 x.t)
  rw [List.setIfInBounds_toArray, List.setIfInBounds_toArray] at this
  unfold usesOf at this
  have hz := part_at h hk
  have h1 := flat_set Rw.use 2 Rw.use_len _ k 0 (by omega) Rw.zero ⟨x.s, 0, 0⟩ hz (.int .i64 x.s) rfl
  simp only [Nat.add_zero] at h1
  rw [h1, flat_set Rw.use 2 Rw.use_len _ k 1 (by omega) ⟨x.s, 0, 0⟩ x (by rw [List.getElem?_set, if_pos rfl, if_pos (List.getElem?_eq_some_iff.1 hz).1]) (.int .i64 x.t) rfl, List.set_set, part_set h hk hx] at this
  exact this
/-- A cell of a row of segments, of uses. -/
theorem segs_cell {w : World} {g : Nat} {t : TypeId} {l : List Rw} (hb : Blk w g t (segsOf l).toArray) {k : Nat} {x : Rw} (hx : l[k]? = some x) (j : Nat) (hj : j < 3) : w.cell? ⟨g, k * 3 + j, none⟩ = x.vals[j]? := by
  rw [hb.cell, List.getElem?_toArray]
  exact flat_get Rw.vals 3 Rw.vals_len l k j hj x hx
theorem uses_cell {w : World} {g : Nat} {t : TypeId} {l : List Rw} (hb : Blk w g t (usesOf l).toArray) {k : Nat} {x : Rw} (hx : l[k]? = some x) (j : Nat) (hj : j < 2) : w.cell? ⟨g, k * 2 + j, none⟩ = x.use[j]? := by
  rw [hb.cell, List.getElem?_toArray]
  exact flat_get Rw.use 2 Rw.use_len l k j hj x hx

/-- May these uses be? -/
def allMay (us : List Rw) : Prop := ∀ x ∈ us, mayUse x.s x.t = true
instance (us : List Rw) : Decidable (allMay us) := by unfold allMay; infer_instance
def plain (us : List Rw) : Prop := ∀ x ∈ us, x.n = 0
theorem allMay_good {us : List Rw} (h : allMay us) (hp : plain us) : ∀ x ∈ us, x.good := fun x hx => by
  obtain ⟨h1, h2⟩ := (mayUse_iff x.s x.t).1 (h x hx)
  exact ⟨h1, h2, by rw [hp x hx]; omega⟩
theorem allMay_nil : allMay [] := by simp [allMay]
theorem allMay_next {us : List Rw} {k : Nat} {x : Rw} (h : allMay (us.take k)) (hx : us[k]? = some x) (hm : mayUse x.s x.t = true) : allMay (us.take (k + 1)) := by
  rw [take_snoc hx]
  intro y hy
  rcases List.mem_append.1 hy with hy | hy
  · exact h y hy
  · simp only [List.mem_singleton] at hy
    rw [hy]
    exact hm
theorem allMay_not {us : List Rw} {k : Nat} {x : Rw} (hx : us[k]? = some x) (hm : mayUse x.s x.t = false) : ¬ allMay us := fun h => by
  have := h x (List.mem_of_getElem? hx)
  rw [hm] at this
  cases this
theorem rep_good (m : Nat) : ∀ x ∈ List.replicate m Rw.zero, x.good := fun x hx => by
  rw [List.eq_of_mem_replicate hx]
  simp [Rw.good, Rw.zero]
end Go.Proofs.Ytjcnndnipnkhoaa.us
