/- What operations on whole sectors and whole writes do: load, store, alloc, build, buildSlice. -/
import Derived.Test.YteobkgajebbpaaaDiskRead
import Derived.Laws.Cover3
namespace Go.Proofs.Yteobkgajebbpaaa.disk
open Go.RowKit Go.Proofs.Yteobkgajebbpaaa.mem Go.Proofs.Yteobkgajebbpaaa.base

theorem arr_under : Try.prog.underlying 70 = some (.array 64 5) := by kernel_rfl
theorem sec_size : (Try.prog.info? 70).map (·.size) = some 64 := by kernel_rfl
theorem write_size : (Try.prog.info? 72).map (·.size) = some 65 := by kernel_rfl
theorem info_write : (Try.prog.info? 72).map (fun i => (i.zero.map fun z => z.cells.size, i.size, i.bytes)) = some (some 65, 65, 72) := by kernel_rfl
theorem info_writes : (Try.prog.info? 72).map (fun i => (i.zero, i.size, i.bytes)) = some (some (.agg (madeCells #[.int .u8 0] 65 |>.setIfInBounds 0 (.int .i64 0))), 65, 72) := by kernel_rfl

theorem array_at (A : Option Addr) (c : Nat) (w : World) : (Instr.arrayAt 70 (.slice A 64 c)).run Try.prog w = .ok (.pointer A) w := run_arrayAt w 70 _ _ A 64 c arr_under (Nat.le_refl _)

theorem load_sec (ad : Addr) (cs : List Value) (w : World) (hl : cs.length = 64) (h : ∀ j v, cs[j]? = some v → w.cell? (ad.add j) = some v) : (loadVar 70 ad).run Try.prog w = .ok (.agg cs.toArray) w := by
  have h1 : (loadCells ad cs.length).run Try.prog w = .ok cs.toArray w := run_loadCells_list (P := Try.prog) w ad cs h
  rw [hl] at h1
  cases hq : Try.prog.info? 70 with
  | none => have := sec_size; rw [hq] at this; cases this
  | some i =>
    have hs : i.size = 64 := by have := sec_size; rw [hq] at this; simpa using this
    have hagg : (isAgg 70).run Try.prog w = .ok true w := by
      unfold isAgg
      rw [Sem.run_bind, run_underlying arr_under w]
      rfl
    simp [loadVar, Sem.run_bind, hagg, sizeOf, typeInfo, hq, hs, h1]

theorem fold_set (cs : List Value) : ∀ (k n : Nat) (Z : Array Value), n + k + cs.length ≤ Z.size →
    ∃ Z' : Array Value, (cs.zipIdx n).foldl (fun acc (x : Value × Nat) => acc.setIfInBounds (k + x.2) x.1) Z = Z' ∧ Z'.size = Z.size ∧ ∀ i, i < Z.size → Z'[i]? = if n + k ≤ i ∧ i < n + k + cs.length then cs[i - (n + k)]? else Z[i]? := by
  induction cs with
  | nil => exact fun k n Z _ => ⟨Z, rfl, rfl, fun i _ => by rw [if_neg (by simp)]⟩
  | cons x cs ih =>
    intro k n Z hz
    simp only [List.length_cons] at hz
    obtain ⟨Z', h1, h2, h3⟩ := ih k (n + 1) (Z.setIfInBounds (k + n) x) (by simp; omega)
    refine ⟨Z', h1, by rw [h2]; simp, fun i hi => ?_⟩
    rw [h3 i (by simpa using hi), Array.getElem?_setIfInBounds]
    simp only [List.length_cons]
    by_cases e : k + n = i
    · subst e
      rw [if_neg (by omega), if_pos rfl, if_pos hi, if_pos (by omega), show k + n - (n + k) = 0 by omega]
      rfl
    · by_cases hc : n + 1 + k ≤ i ∧ i < n + 1 + k + cs.length
      · rw [if_pos hc, if_pos (by omega), show i - (n + k) = (i - (n + 1 + k)) + 1 by omega, List.getElem?_cons_succ]
      · rw [if_neg hc, if_neg e, if_neg (by omega)]

theorem info_int : ∃ i, Try.prog.info? 3 = some i ∧ i.size = 1 := by
  have h : (Try.prog.info? 3).map (·.size) = some 1 := by kernel_rfl
  obtain ⟨i, h1, h2⟩ := Option.map_eq_some_iff.1 h
  exact ⟨i, h1, h2⟩
theorem info_sec2 : ∃ i, Try.prog.info? 70 = some i ∧ i.size = 64 := by
  obtain ⟨i, h1, h2⟩ := Option.map_eq_some_iff.1 sec_size
  exact ⟨i, h1, h2⟩
theorem info_write2 : ∃ (i : TypeInfo) (zc : Array Value), Try.prog.info? 72 = some i ∧ i.zero = some (.agg zc) ∧ zc.size = 65 ∧ i.size = 65 := by
  obtain ⟨i, h1, h2⟩ := Option.map_eq_some_iff.1 info_write
  simp only [Prod.mk.injEq] at h2
  obtain ⟨z, h3, h4⟩ := Option.map_eq_some_iff.1 h2.1
  cases z <;> simp [Value.cells] at h4
  rename_i zc
  exact ⟨i, zc, h1, h3, h4, h2.2.1⟩

/-- A held write is built of its sector and its bytes. -/
theorem build_write (x : Int) (cs : List Value) (w : World) (hl : cs.length = 64) : (Instr.build 72 #[(0, .int .i64 x), (1, .agg cs.toArray)]).run Try.prog w = .ok (.agg (Value.int .i64 x :: cs).toArray) w := by
  obtain ⟨i3, h3, s3⟩ := info_int
  obtain ⟨i70, h70, s70⟩ := info_sec2
  obtain ⟨i72, zc, h72, hz, hzs, s72⟩ := info_write2
  obtain ⟨Z', hf, hfs, hfi⟩ := fold_set cs 1 0 (zc.setIfInBounds 0 (.int .i64 x)) (by simp; omega)
  have hZ : Z' = (Value.int .i64 x :: cs).toArray := by
    apply Array.ext_getElem?
    intro j
    have e1 : ((Value.int .i64 x :: cs).toArray)[j]? = (Value.int .i64 x :: cs)[j]? := by simp
    rw [e1]
    rcases Nat.lt_or_ge j 65 with hj | hj
    · rw [hfi j (by simp; omega), Array.getElem?_setIfInBounds]
      rcases j with _ | j
      · rw [if_neg (by omega), if_pos rfl, if_pos (by omega)]
        rfl
      · rw [if_pos (by omega), List.getElem?_cons_succ]
        congr 1
    · rw [Array.getElem?_eq_none (by rw [hfs]; simp; omega), List.getElem?_eq_none (by simp; omega)]
  have hne : ¬ zc = #[] := fun h => by rw [h] at hzs; simp at hzs
  rw [← hZ, ← hf]
  simp [hne, Instr.build, zeroValue, typeInfo, h72, hz, run_underlying Try.underlying72, sizeOf, h3, h70, s3, s70, Instr.fill, Value.cells, hl, hzs, List.zipIdx]

section
variable {P : Program} {w w' : World}
theorem wp_value {o : Oper} {a : Act} {K : Act → World → Prop} {Q : Exit → Act → World → Prop} {v : Value} (hrun : (execOp a.eval o).run P w = .ok (.value v) w') (h : K (a.put o.dst v) w') : o.wp P a w K Q := by
  unfold Oper.wp
  rw [hrun]
  exact h
theorem exec_load {o : Oper} {a : Act} (ty : TypeId) (x : Operand) (ho : o.op = .load ty x) (ad : Addr) (hx : a.eval x = .pointer (some ad)) {v : Value} (h : (loadVar ty ad).run P w = .ok v w) : (execOp a.eval o).run P w = .ok (.value v) w := by
  unfold execOp
  simp only [ho, hx, Instr.loadAt, Instr.sureAddr, Sem.run_bind, Sem.run_pure, Result.andThen_ok, h]
theorem exec_build2 {o : Oper} {a : Act} (ty : TypeId) (x y : Operand) (ho : o.op = .build ty #[(0, x), (1, y)]) (vx vy : Value) (hx : a.eval x = vx) (hy : a.eval y = vy) {v : Value} (h : (Instr.build ty #[(0, vx), (1, vy)]).run P w = .ok v w) : (execOp a.eval o).run P w = .ok (.value v) w := by
  unfold execOp
  simp only [ho, List.map_toArray, List.map_cons, List.map_nil, hx, hy, Sem.run_bind, Sem.run_pure, Result.andThen_ok, h]
theorem exec_buildSlice1 {o : Oper} {a : Act} (ty : TypeId) (x : Operand) (ho : o.op = .buildSlice ty 1 #[(0, x)]) (vx : Value) (hx : a.eval x = vx) {v : Value} (h : (Instr.buildSlice ty 1 #[(0, vx)]).run P w = .ok v w') : (execOp a.eval o).run P w = .ok (.value v) w' := by
  unfold execOp
  simp only [ho, List.map_toArray, List.map_cons, List.map_nil, hx, Sem.run_bind, Sem.run_pure, Result.andThen_ok, h]
theorem wpList_value {ops : Array Oper} {rest : List Oper} {o : Oper} {a : Act} {Q : Exit → Act → World → Prop} (hgd : o.guard = none) {v : Value} (hrun : (execOp a.eval o).run P w = .ok (.value v) w') (h : wpList P ops Q rest (a.put o.dst v) w') : wpList P ops Q (o :: rest) a w :=
  wpList_plain hgd fun _ hK => wp_value hrun (hK _ _ h)
theorem wpAny_one {md : Region.Mode} {ops : Array Oper} {Q : Exit → Act → World → Prop} {fuel : Nat} {listed : Array Bool} {a : Act} {i : Nat} {o : Oper} (hr : Region.ready md ops listed = [i]) (ho : ops[i]? = some o) (hw : Region.wanted o (yielded ops a.tmps) = true)
    (h : ∀ K : Act → World → Prop, (∀ a w, wpAny P md ops Q fuel (listed.setIfInBounds i true) a w → K a w) → Oper.wp P o a w K Q) : wpAny P md ops Q (fuel + 1) listed a w :=
  wpAny_all hr (by simp) (fun j hj => by
    simp at hj
    subst hj
    unfold wpOp
    simp only [ho, hw, if_true]
    exact .inl (h _ (fun _ _ h => h)))
theorem wpAny_two {md : Region.Mode} {ops : Array Oper} {Q : Exit → Act → World → Prop} {fuel : Nat} {listed : Array Bool} {a : Act} {i j : Nat} {o o2 : Oper} (hr : Region.ready md ops listed = [i, j]) (ho : ops[i]? = some o) (ho2 : ops[j]? = some o2) (hw : Region.wanted o (yielded ops a.tmps) = true) (hw2 : Region.wanted o2 (yielded ops a.tmps) = true)
    (h : ∀ K : Act → World → Prop, (∀ a w, wpAny P md ops Q fuel (listed.setIfInBounds i true) a w → K a w) → Oper.wp P o a w K Q)
    (h2 : ∀ K : Act → World → Prop, (∀ a w, wpAny P md ops Q fuel (listed.setIfInBounds j true) a w → K a w) → Oper.wp P o2 a w K Q) : wpAny P md ops Q (fuel + 1) listed a w :=
  wpAny_all hr (by simp) (fun k hk => by
    simp at hk
    rcases hk with rfl | rfl
    · unfold wpOp
      simp only [ho, hw, if_true]
      exact .inl (h _ (fun _ _ h => h))
    · unfold wpOp
      simp only [ho2, hw2, if_true]
      exact .inl (h2 _ (fun _ _ h => h)))
theorem load_row (ty t : TypeId) (d : TypeDesc) (g : Nat) (vs : List Value) (k : Nat) (cs : List Value) (hr : Row w g t vs) (hc : (vs.drop k).take cs.length = cs) (hu : P.underlying ty = some d) (hd : d.isRow = true) (hi : (P.info? ty).map (·.size) = some cs.length) : (loadVar ty ⟨g, k, none⟩).run P w = .ok (.agg cs.toArray) w :=
  run_loadVar_mid w g k ty cs d (by have := hr.range k cs.length; rwa [hc] at this) hu hd hi
end

/-- A slice of one write. -/
theorem build_writes (cs : List Value) (w : World) (hl : cs.length = 65) : (Instr.buildSlice 73 1 #[(0, .agg cs.toArray)]).run Try.prog w = .ok (.slice (some ⟨w.heap.size, 0, none⟩) 1 1) (w.alloc (.cells cs.toArray 72)) := by
  obtain ⟨i72, zc, h72, hz, hzs, s72⟩ := info_write2
  obtain ⟨Z', hf, hfs, hfi⟩ := fold_set cs 0 0 ((Array.range 65).map (zc[· % 65]!)) (by simp; omega)
  have hZ : Z' = cs.toArray := by
    apply Array.ext_getElem?
    intro j
    have e1 : (cs.toArray)[j]? = cs[j]? := by simp
    rw [e1]
    rcases Nat.lt_or_ge j 65 with hj | hj
    · rw [hfi j (by simp; omega), if_pos (by omega)]
      congr 1
    · rw [Array.getElem?_eq_none (by rw [hfs]; simp; omega), List.getElem?_eq_none (by omega)]
  have key : List.foldl (fun acc (x : Value × Nat) => acc.setIfInBounds x.2 x.1) ((Array.range 65).map (zc[· % 65]!)) cs.zipIdx = cs.toArray := by
    have := hf.trans hZ
    simpa using this
  simp [key, Instr.buildSlice, zeroValue, typeInfo, h72, hz, run_underlying Try.underlying73, sizeOf, s72, Instr.fill, Value.cells, hl, hzs, newRow]
end Go.Proofs.Yteobkgajebbpaaa.disk
