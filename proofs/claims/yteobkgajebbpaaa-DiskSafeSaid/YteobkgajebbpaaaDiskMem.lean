/- A block that begins with these values; many cells laid at once; what a slice of arrays wants. -/
import Derived.Test.YteobkgajebbpaaaBase
import Derived.Deep.MidRow
import Derived.Deep.WholeRow
namespace Go.Proofs.Yteobkgajebbpaaa.disk
open Go.RowKit Go.Proofs.Yteobkgajebbpaaa.mem Go.Proofs.Yteobkgajebbpaaa.base

/-- Values laid over others from a place on. -/
def lay {α : Type} (s : List α) (k : Nat) (xs : List α) : List α := s.take k ++ (xs ++ s.drop (k + xs.length))
theorem lay_nil {α : Type} (s : List α) (k : Nat) : lay s k [] = s := by simp [lay]
theorem lay_all {α : Type} (s xs : List α) (h : xs.length = s.length) : lay s 0 xs = xs := by simp [lay, h]
theorem lay_length {α : Type} (s : List α) (k : Nat) (xs : List α) (h : k + xs.length ≤ s.length) : (lay s k xs).length = s.length := by simp [lay]; omega
theorem lay_map {α β : Type} (f : α → β) (s : List α) (k : Nat) (xs : List α) : (lay s k xs).map f = lay (s.map f) k (xs.map f) := by simp [lay, List.map_take, List.map_drop]
theorem lay_get {α : Type} (s : List α) (k : Nat) (xs : List α) (h : k + xs.length ≤ s.length) (i : Nat) : (lay s k xs)[i]? = if k ≤ i ∧ i < k + xs.length then xs[i - k]? else s[i]? := by
  have h1 : (s.take k).length = k := by simp; omega
  unfold lay
  rw [List.getElem?_append, h1]
  by_cases hi : i < k
  · rw [if_pos hi, if_neg (by omega), List.getElem?_take_of_lt hi]
  · rw [if_neg hi, List.getElem?_append]
    by_cases hj : i - k < xs.length
    · rw [if_pos hj, if_pos (by omega)]
    · rw [if_neg hj, if_neg (by omega), List.getElem?_drop]
      congr 1
      omega

/-- A sector of a row of them. -/
def sec {α : Type} (s : List α) (i : Nat) : List α := (s.drop (64 * i)).take 64
theorem sec_length {α : Type} (s : List α) (i n : Nat) (h : s.length = 64 * n) (hi : i < n) : (sec s i).length = 64 := by simp [sec]; omega
theorem sec_get {α : Type} (s : List α) (i j : Nat) (h : j < 64) : (sec s i)[j]? = s[64 * i + j]? := by
  unfold sec
  rw [List.getElem?_take_of_lt h, List.getElem?_drop]
theorem sec_get_none {α : Type} (s : List α) (i j : Nat) (h : 64 ≤ j) : (sec s i)[j]? = none := by
  unfold sec
  rw [List.getElem?_eq_none]
  simp
  omega
theorem sec_map {α β : Type} (f : α → β) (s : List α) (i : Nat) : (sec s i).map f = sec (s.map f) i := by simp [sec, List.map_take, List.map_drop]
theorem sec_lay_same {α : Type} (s : List α) (i n : Nat) (xs : List α) (hs : s.length = 64 * n) (hi : i < n) (hx : xs.length ≤ 64) : sec (lay s (64 * i) xs) i = lay (sec s i) 0 xs := by
  have hl := sec_length s i n hs hi
  apply List.ext_getElem?
  intro j
  rcases Nat.lt_or_ge j 64 with hj | hj
  · rw [sec_get _ _ _ hj, lay_get _ _ _ (by omega), lay_get _ _ _ (by omega)]
    by_cases hk : j < xs.length
    · rw [if_pos (by omega), if_pos (by omega)]
      congr 1
      omega
    · rw [if_neg (by omega), if_neg (by omega), sec_get _ _ _ hj]
  · rw [sec_get_none _ _ _ hj, List.getElem?_eq_none]
    rw [lay_length _ _ _ (by omega)]
    omega
theorem sec_lay_other {α : Type} (s : List α) (i j n : Nat) (xs : List α) (hs : s.length = 64 * n) (hi : i < n) (hx : xs.length ≤ 64) (hij : i ≠ j) : sec (lay s (64 * i) xs) j = sec s j := by
  apply List.ext_getElem?
  intro k
  rcases Nat.lt_or_ge k 64 with hk | hk
  · rw [sec_get _ _ _ hk, lay_get _ _ _ (by omega), if_neg (by omega), sec_get _ _ _ hk]
  · rw [sec_get_none _ _ _ hk, sec_get_none _ _ _ hk]

/-- A block of a type that begins with these values. -/
def Row (w : World) (g : Nat) (t : TypeId) (vs : List Value) : Prop := ∃ cs : Array Value, Blk w g t cs ∧ vs.length ≤ cs.size ∧ ∀ (i : Nat) (v : Value), vs[i]? = some v → cs[i]? = some v

section
variable {w w' : World} {g : Nat} {t : TypeId} {vs : List Value}
theorem Row.lt (h : Row w g t vs) : g < w.heap.size := by obtain ⟨_, h, _⟩ := h; exact h.lt
theorem Row.kept {S : List Nat} (h : Row w g t vs) (k : Kept S w w') (hg : g ∉ S) : Row w' g t vs := by
  obtain ⟨cs, h, r⟩ := h
  exact ⟨cs, k.blk h hg, r⟩
theorem Row.drewN (h : Row w g t vs) (n : Nat) : Row (w.drewN n) g t vs := h
theorem Row.drew (h : Row w g t vs) : Row w.drew g t vs := h
theorem Row.alloc (h : Row w g t vs) (o : Obj) : Row (w.alloc o) g t vs := by
  obtain ⟨cs, h, r⟩ := h
  exact ⟨cs, h.alloc o, r⟩
theorem Row.far_ (h : Row w g t vs) {b : Nat} (hb : g ≠ b) (i : Nat) (u : Value) : Row (w.setCell ⟨b, i, none⟩ u) g t vs := by
  obtain ⟨cs, h, r⟩ := h
  exact ⟨cs, h.far_ hb i u, r⟩
theorem Row.cell (h : Row w g t vs) {i : Nat} {v : Value} (hv : vs[i]? = some v) : w.cell? ⟨g, i, none⟩ = some v := by
  obtain ⟨cs, h, _, r⟩ := h
  rw [h.cell]
  exact r i v hv
theorem Row.frozen (h : Row w g t vs) (i : Nat) : w.frozen? ⟨g, i, none⟩ = false := by
  obtain ⟨cs, h, _⟩ := h
  exact h.frozen i
theorem Row.set_ (h : Row w g t vs) (i : Nat) (u : Value) : Row (w.setCell ⟨g, i, none⟩ u) g t (vs.set i u) := by
  obtain ⟨cs, h, hl, r⟩ := h
  refine ⟨_, h.set_ i u, by simpa using hl, fun j v hv => ?_⟩
  rw [List.getElem?_set] at hv
  rw [Array.getElem?_setIfInBounds]
  split at hv
  · rename_i e
    subst e
    split at hv
    · rw [if_pos rfl, if_pos (by omega)]
      exact hv
    · cases hv
  · rename_i e
    rw [if_neg e]
    exact r j v hv
theorem Row.ne_ {g' : Nat} {t' : TypeId} {vs' : List Value} (h : Row w g t vs) (h' : Row w g' t' vs') (ht : t ≠ t') : g ≠ g' := by
  rintro rfl
  obtain ⟨cs, h, _⟩ := h
  obtain ⟨cs', h', _⟩ := h'
  unfold Blk at h h'
  rw [h] at h'
  injection h' with h'
  injection h' with _ h'
  exact ht h'
theorem Row.of_blk {cs : Array Value} (h : Blk w g t cs) : Row w g t cs.toList := ⟨cs, h, by simp, fun i v hv => by simpa using hv⟩
theorem Row.vals (h : Row w g t vs) {S : List Nat} (hg : g ∉ S) (k n : Nat) : Vals w S (some ⟨g, k, none⟩) ((vs.drop k).take n) := by
  obtain ⟨cs, h, _, r⟩ := h
  refine Vals.blk k h hg fun i v hv => ?_
  have hi : i < n := by have := (List.getElem?_eq_some_iff.1 hv).1; rw [List.length_take] at this; omega
  rw [List.getElem?_take_of_lt hi, List.getElem?_drop] at hv
  exact r _ _ hv
theorem Row.vals0 (h : Row w g t vs) {S : List Nat} (hg : g ∉ S) : Vals w S (some ⟨g, 0, none⟩) vs := by
  have := h.vals hg 0 vs.length
  simpa using this
theorem Row.range (h : Row w g t vs) (k n : Nat) : w.rangeAt g k ((vs.drop k).take n) := by
  intro j v hv
  have hi : j < n := by have := (List.getElem?_eq_some_iff.1 hv).1; rw [List.length_take] at this; omega
  rw [List.getElem?_take_of_lt hi, List.getElem?_drop] at hv
  exact h.cell hv
theorem Row.there (h : Row w g t vs) (k n : Nat) (hk : k + n ≤ vs.length) : w.there g k n := fun j hj =>
  ⟨by rw [h.cell (List.getElem?_eq_getElem (show k + j < vs.length by omega))]; rfl, h.frozen _⟩

theorem blk_setCells (g : Nat) (t : TypeId) : ∀ (xs : List Value) (o : Nat) (w : World) (cs : Array Value), Blk w g t cs → ∃ cs' : Array Value, Blk (w.setCells g o xs) g t cs' ∧ cs'.size = cs.size ∧ ∀ i, i < cs.size → cs'[i]? = if o ≤ i ∧ i < o + xs.length then xs[i - o]? else cs[i]?
  | [], o, w, cs, h => ⟨cs, h, rfl, fun i _ => by rw [if_neg (by simp)]⟩
  | x :: xs, o, w, cs, h => by
    obtain ⟨cs', h1, h2, h3⟩ := blk_setCells g t xs (o + 1) _ _ (h.set_ o x)
    refine ⟨cs', h1, by rw [h2]; simp, fun i hi => ?_⟩
    rw [h3 i (by simpa using hi), Array.getElem?_setIfInBounds]
    simp only [List.length_cons]
    by_cases e : o = i
    · subst e
      rw [if_neg (by omega), if_pos rfl, if_pos hi, if_pos (by omega)]
      simp
    · by_cases hc : o + 1 ≤ i ∧ i < o + 1 + xs.length
      · rw [if_pos hc, if_pos (by omega), show i - o = (i - (o + 1)) + 1 by omega, List.getElem?_cons_succ]
      · rw [if_neg hc, if_neg e, if_neg (by omega)]
theorem kept_setCells (g : Nat) : ∀ (xs : List Value) (o : Nat) (a w : World), Kept [g] a w → Kept [g] a (w.setCells g o xs)
  | [], _, _, _, h => h
  | x :: xs, o, a, w, h => kept_setCells g xs (o + 1) a _ (h.set_ (.inl (by simp)) o x)
theorem Row.setCells (h : Row w g t vs) (o : Nat) (xs : List Value) (ho : o + xs.length ≤ vs.length) : Row (w.setCells g o xs) g t (lay vs o xs) := by
  obtain ⟨cs, h, hl, r⟩ := h
  obtain ⟨cs', h1, h2, h3⟩ := blk_setCells g t xs o w cs h
  refine ⟨cs', h1, by rw [lay_length _ _ _ ho, h2]; exact hl, fun i v hv => ?_⟩
  have hi : i < vs.length := by have := (List.getElem?_eq_some_iff.1 hv).1; rw [lay_length _ _ _ ho] at this; exact this
  rw [h3 i (by omega)]
  rw [lay_get _ _ _ ho] at hv
  split at hv
  · rename_i hc
    rw [if_pos hc]
    exact hv
  · rename_i hc
    rw [if_neg hc]
    exact r i v hv
end

section
variable {P : Program} {w : World}
/-- Many cells stored at once. -/
theorem wp_store_lay {o : Oper} {a : Act} {K : Act → World → Prop} {Q : Exit → Act → World → Prop} (ty : TypeId) (x y : Operand) (ho : o.op = .store ty x y)
    (g off : Nat) (xs : List Value) (hx : a.eval x = .pointer (some ⟨g, off, none⟩)) (hy : a.eval y = .agg xs.toArray) (t : TypeId) (vs : List Value) (hr : Row w g t vs) (hfit : off + xs.length ≤ vs.length)
    (hi : (P.info? ty).map (·.size) = some xs.length) (h1 : ∀ v ∈ xs, v.oneCell' = true)
    (h : ∀ w', Kept [g] w w' → Row w' g t (lay vs off xs) → K (a.put o.dst undef) w') : o.wp P a w K Q :=
  wp_store_mid ty x y ho g off xs.toArray hx hy (by simpa using hr.there off xs.length hfit) (by simpa using hi) (all_oneCell_toArray h1)
    (h _ (kept_setCells g _ _ _ _ (Kept.refl _ _)) (hr.setCells off xs hfit))
theorem wpList_store_lay {ops : Array Oper} {rest : List Oper} {o : Oper} {a : Act} {Q : Exit → Act → World → Prop} (hgd : o.guard = none) (ty : TypeId) (x y : Operand) (ho : o.op = .store ty x y)
    (g off : Nat) (xs : List Value) (hx : a.eval x = .pointer (some ⟨g, off, none⟩)) (hy : a.eval y = .agg xs.toArray) (t : TypeId) (vs : List Value) (hr : Row w g t vs) (hfit : off + xs.length ≤ vs.length)
    (hi : (P.info? ty).map (·.size) = some xs.length) (h1 : ∀ v ∈ xs, v.oneCell' = true)
    (h : ∀ w', Kept [g] w w' → Row w' g t (lay vs off xs) → wpList P ops Q rest (a.put o.dst undef) w') : wpList P ops Q (o :: rest) a w :=
  wpList_plain hgd fun _ hK => wp_store_lay ty x y ho g off xs hx hy t vs hr hfit hi h1 fun w' hk h2 => hK _ _ (h w' hk h2)

/-- A new variable, and what it holds is stored in it whole. -/
theorem wpList_alloc_store {ops : Array Oper} {rest : List Oper} {o o2 : Oper} {a : Act} {Q : Exit → Act → World → Prop} (hgd : o.guard = none) (hgd2 : o2.guard = none) (ty : TypeId) (x y : Operand) (ho : o.op = .alloc ty) (ho2 : o2.op = .store ty x y)
    (xs : List Value) (hz : (P.info? ty).map (fun i => (i.zero.map fun z => z.cells.size, i.size)) = some (some xs.length, xs.length))
    (hx : ∀ v, (a.put o.dst v).eval x = v) (hy : ∀ v, (a.put o.dst v).eval y = .agg xs.toArray) (h1 : ∀ v ∈ xs, v.oneCell' = true)
    (h : wpList P ops Q rest ((a.put o.dst (.pointer (some ⟨w.heap.size, 0, none⟩))).put o2.dst undef) (w.alloc (.cells xs.toArray ty))) : wpList P ops Q (o :: o2 :: rest) a w := by
  obtain ⟨i, hi, hzz⟩ := Option.map_eq_some_iff.1 hz
  simp only [Prod.mk.injEq] at hzz
  obtain ⟨hz1, hz2⟩ := hzz
  obtain ⟨z, hzi, hzc⟩ := Option.map_eq_some_iff.1 hz1
  refine wpList_plain hgd fun K hK => ?_
  have hal : (Instr.alloc ty true (.tuple #[])).run P w = .ok (.pointer (some ⟨w.heap.size, 0, none⟩)) (w.alloc (.cells z.cells ty)) := by
    have hzr : (zeroValue ty).run P w = .ok z w := by simp [zeroValue, typeInfo, hi, hzi]
    simp only [Instr.alloc, Sem.run_bind, hzr, Result.andThen_ok]
    rfl
  unfold Oper.wp
  simp only [execOp, ho, hal, Sem.run_bind, Result.andThen_ok, Sem.run_pure]
  refine hK _ _ ?_
  refine wpList_plain hgd2 fun K2 hK2 => ?_
  unfold Oper.wp
  have hst := run_storeAt_new (P := P) w ty z.cells xs.toArray (by rw [hi]; simp [hz2]) (by rw [hzc]; simp) (all_oneCell_toArray h1)
  simp only [execOp, ho2, hx, hy, Sem.run_bind, hst, Result.andThen_ok, Sem.run_pure]
  exact hK2 _ _ h
end
end Go.Proofs.Yteobkgajebbpaaa.disk
