/- pick; copy into a row; a variable that is made and filled later. -/
import Derived.Test.YteobkgajebbpaaaDiskFlush
import Derived.Laws.CopyRow
namespace Go.Proofs.Yteobkgajebbpaaa.disk
open Go.RowKit Go.Proofs.Yteobkgajebbpaaa.mem Go.Proofs.Yteobkgajebbpaaa.base

theorem pickAt_lt (l : List Int) (i : Nat) : pickAt l i < 192 := by unfold pickAt; omega
theorem pick_none (A : Option Addr) (n c : Nat) (l : List Int) (i : Nat) (w : World) (hl : l.length = n) (hi : n ≤ i) : Calls Try.prog 41 #[.slice A n c, .int .i64 i] w fun e w' => e = .returned (.int .i64 (pickAt l i)) ∧ w = w' := by
  have h0 : pickAt l i = 0 := by unfold pickAt; rw [List.getD_eq_getElem?_getD, List.getElem?_eq_none (by omega)]; rfl
  rw [h0]
  go_enter Try.func41, Try.ntmps41
  go_wp2
  go_ret
  exact ⟨rfl, rfl⟩
theorem pick_some (A : Option Addr) (n c : Nat) (l : List Int) (i : Nat) (w : World) (hv : Vals w [] A (l.map I)) (hl : l.length = n) (hi : i < n) : Calls Try.prog 41 #[.slice A n c, .int .i64 i] w fun e w' => e = .returned (.int .i64 (pickAt l i)) ∧ w = w' := by
  obtain ⟨ad, rfl, _, hc⟩ := hv i (I l[i]) (by rw [List.getElem?_map, List.getElem?_eq_getElem (by omega)]; rfl)
  have hp : ((pickAt l i : Nat) : Int) = l[i] % 192 := by
    unfold pickAt
    rw [List.getD_eq_getElem?_getD, List.getElem?_eq_getElem (by omega), Option.getD_some]
    omega
  rw [hp]
  unfold I at hc
  generalize l[i] = x at hc
  clear hv hp hl
  have h1 := Int.tmod_lt_of_pos x (show (0 : Int) < 192 by omega)
  have h2 := Int.lt_tmod_of_pos x (show (0 : Int) < 192 by omega)
  have h3 : Hid (x % 192 = if x.tmod 192 < 0 then x.tmod 192 + 192 else x.tmod 192) := by
    unfold Hid
    have h4 : x = 192 * x.tdiv 192 + x.tmod 192 := (Int.mul_tdiv_add_tmod x 192).symm
    split <;> omega
  by_cases hk : x.tmod 192 < 0
  · have HK := hide (show (x.tmod 192 + 192 = x % 192) by rw [h3.out, if_pos hk])
    clear h3
    go_enter Try.func41, Try.ntmps41
    go_wp2
    go_ret
    exact ⟨congrArg (fun q => Ending.returned (.int .i64 q)) HK.out, rfl⟩
  · have HK := hide (show (x.tmod 192 = x % 192) by rw [h3.out, if_neg hk])
    have hk' : 0 ≤ x.tmod 192 := by omega
    clear h3
    go_enter Try.func41, Try.ntmps41
    go_wp2
    go_ret
    exact ⟨congrArg (fun q => Ending.returned (.int .i64 q)) HK.out, rfl⟩
theorem pick_at (A : Option Addr) (n c : Nat) (l : List Int) (i : Nat) (w : World) (hv : Vals w [] A (l.map I)) (hl : l.length = n) : Calls Try.prog 41 #[.slice A n c, .int .i64 i] w fun e w' => e = .returned (.int .i64 (pickAt l i)) ∧ w = w' := by
  rcases Nat.lt_or_ge i n with h | h
  · exact pick_some A n c l i w hv hl h
  · exact pick_none A n c l i w hl h

section
variable {P : Program} {w : World}
theorem wpList_alloc_any {ops : Array Oper} {rest : List Oper} {o : Oper} {a : Act} {Q : Exit → Act → World → Prop} (hgd : o.guard = none) (ty : TypeId) (ho : o.op = .alloc ty)
    (n : Nat) (hz : (P.info? ty).map (fun i => (i.zero.map fun z => z.cells.size, i.size)) = some (some n, n))
    (h : ∀ Z : Array Value, Z.size = n → wpList P ops Q rest (a.put o.dst (.pointer (some ⟨w.heap.size, 0, none⟩))) (w.alloc (.cells Z ty))) : wpList P ops Q (o :: rest) a w := by
  obtain ⟨i, hi, hzz⟩ := Option.map_eq_some_iff.1 hz
  simp only [Prod.mk.injEq] at hzz
  obtain ⟨hz1, hz2⟩ := hzz
  obtain ⟨z, hzi, hzc⟩ := Option.map_eq_some_iff.1 hz1
  refine wpList_plain hgd fun K hK => ?_
  have hal : (Instr.alloc ty true (.tuple #[])).run P w = .ok (.pointer (some ⟨w.heap.size, 0, none⟩)) (w.alloc (.cells z.cells ty)) := by
    have hzr : (zeroValue ty).run P w = .ok z w := by simp [zeroValue, typeInfo, hi, hzi]
    simp only [Instr.alloc, Sem.run_bind, hzr, Result.andThen_ok]
    rfl
  unfold Oper.wp
  simp only [execOp, ho, hal, Sem.run_bind, Result.andThen_ok, Sem.run_pure]
  exact hK _ _ (h _ hzc)
theorem wpList_store_new {ops : Array Oper} {rest : List Oper} {o : Oper} {a : Act} {Q : Exit → Act → World → Prop} (hgd : o.guard = none) (ty : TypeId) (x y : Operand) (ho : o.op = .store ty x y)
    (Z : Array Value) (xs : List Value) (hx : a.eval x = .pointer (some ⟨w.heap.size, 0, none⟩)) (hy : a.eval y = .agg xs.toArray) (hz : Z.size = xs.length) (hi : (P.info? ty).map (·.size) = some xs.length) (h1 : ∀ v ∈ xs, v.oneCell' = true)
    (h : wpList P ops Q rest (a.put o.dst undef) (w.alloc (.cells xs.toArray ty))) : wpList P ops Q (o :: rest) a (w.alloc (.cells Z ty)) := by
  refine wpList_plain hgd fun K hK => ?_
  unfold Oper.wp
  have hst := run_storeAt_new (P := P) w ty Z xs.toArray (by rw [hi]; simp) (by rw [hz]; simp) (all_oneCell_toArray h1)
  simp only [execOp, ho, hx, hy, Sem.run_bind, hst, Result.andThen_ok, Sem.run_pure]
  exact hK _ _ h

/-- copy into a row from a place on. -/
theorem wp_copy_row {o : Oper} {a : Act} {K : Act → World → Prop} {Q : Exit → Act → World → Prop} (d s : Operand) (dT sT e : TypeId)
    (ho : o.op = .call { callee := .builtin .copy, args := #[d, s], argTypes := #[dT, sT] }) (hu : P.underlying dT = some (.slice e)) (hsz : (P.info? e).map (·.size) = some 1)
    (dp sp : Option Addr) (dLen dCap sLen sCap : Nat) (hd : a.eval d = .slice dp dLen dCap) (hs : a.eval s = .slice sp sLen sCap)
    (xs : List Value) (hn : xs.length = Nat.min sLen dLen) (hsrc : Vals w [] sp xs) (h1 : ∀ v ∈ xs, v.oneCell' = true)
    (g off : Nat) (t : TypeId) (vs : List Value) (hr : Row w g t vs) (hdp : 0 < xs.length → dp = some ⟨g, off, none⟩) (hfit : off + xs.length ≤ vs.length)
    (h : ∀ w', Kept [g] w w' → Row w' g t (lay vs off xs) → K (a.put o.dst (goInt xs.length)) w') : o.wp P a w K Q := by
  by_cases h0 : xs.length = 0
  · obtain rfl : xs = [] := List.eq_nil_of_length_eq_zero h0
    have hrun := run_copy_none (P := P) w dT sT o.type _ dp sp dLen dCap sLen sCap hu hsz hn.symm
    unfold Oper.wp
    simp [execOp, ho, resolve, invoke, builtin, hd, hs, hrun, Result.andThen]
    exact h w (Kept.refl _ _) (by rw [lay_nil]; exact hr)
  · obtain rfl := hdp (by omega)
    obtain ⟨cur, hg, hbl, hc⟩ := hr
    have hpos : 0 < xs.length := by omega
    obtain ⟨ad, rfl, _, _⟩ := hsrc 0 xs[0] (List.getElem?_eq_getElem hpos)
    have hcells : ∀ j v, xs[j]? = some v → w.cell? (ad.add j) = some v := by
      intro j u hu
      obtain ⟨ad', h, _, hc⟩ := hsrc j u hu
      injection h with h
      subst h
      exact hc
    have hrun := run_copy_row (P := P) w dT sT o.type _ g off dLen dCap ad sLen sCap cur _ xs hu hsz hg hn hcells (by omega) h1
    unfold Oper.wp
    simp [execOp, ho, resolve, invoke, builtin, hd, hs, hrun, Result.andThen]
    have hk := h (w.setRow g (cur.toList.take off ++ (xs ++ cur.toList.drop (off + xs.length))).toArray) ⟨rfl, rfl, rfl, by simp, fun k _ hk => setRow_other w g k _ (by simpa using hk)⟩
      ⟨_, setRow_heap w g cur _ _ _ hg, by rw [lay_length _ _ _ hfit]; simp; omega, fun i v hv => ?_⟩
    · rw [Oper.upon_value]
      simpa using hk
    · have e : (cur.toList.take off ++ (xs ++ cur.toList.drop (off + xs.length))) = lay cur.toList off xs := rfl
      rw [e, List.getElem?_toArray, lay_get _ _ _ (by simp; omega)]
      rw [lay_get _ _ _ hfit] at hv
      split at hv
      · rename_i hi
        rw [if_pos hi]
        exact hv
      · rename_i hi
        rw [if_neg hi]
        simpa using hc i v hv
theorem wpList_copy_row {ops : Array Oper} {rest : List Oper} {o : Oper} {a : Act} {Q : Exit → Act → World → Prop} (hgd : o.guard = none) (d s : Operand) (dT sT e : TypeId)
    (ho : o.op = .call { callee := .builtin .copy, args := #[d, s], argTypes := #[dT, sT] }) (hu : P.underlying dT = some (.slice e)) (hsz : (P.info? e).map (·.size) = some 1)
    (dp sp : Option Addr) (dLen dCap sLen sCap : Nat) (hd : a.eval d = .slice dp dLen dCap) (hs : a.eval s = .slice sp sLen sCap)
    (xs : List Value) (hn : xs.length = Nat.min sLen dLen) (hsrc : Vals w [] sp xs) (h1 : ∀ v ∈ xs, v.oneCell' = true)
    (g off : Nat) (t : TypeId) (vs : List Value) (hr : Row w g t vs) (hdp : 0 < xs.length → dp = some ⟨g, off, none⟩) (hfit : off + xs.length ≤ vs.length)
    (h : ∀ w', Kept [g] w w' → Row w' g t (lay vs off xs) → wpList P ops Q rest (a.put o.dst (goInt xs.length)) w') : wpList P ops Q (o :: rest) a w :=
  wpList_plain hgd fun _ hK => wp_copy_row d s dT sT e ho hu hsz dp sp dLen dCap sLen sCap hd hs xs hn hsrc h1 g off t vs hr hdp hfit fun w' h1 h2 => hK _ _ (h w' h1 h2)
end
end Go.Proofs.Yteobkgajebbpaaa.disk
