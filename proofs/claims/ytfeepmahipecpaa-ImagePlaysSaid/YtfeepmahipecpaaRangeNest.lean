/- Iterators that turn nothing but their own, and loops over them, which may lie within one another. -/
import Derived.Test.YtfeepmahipecpaaRangeTurn
import Derived.OwnWalkIn
import Derived.Test.YtfeepmahipecpaaOwns
import Derived.Test.YtfeepmahipecpaaMemOps
namespace Go.Proofs.Ytfeepmahipecpaa.base
set_option linter.unusedSimpArgs false
set_option linter.unusedVariables false
open Go.RowKit Go.Proofs.Ytfeepmahipecpaa.mem
theorem yield_lv {m m' : Nat} {P : Program} {l : Nat} {args : Array Value} {W : World} {R : Ending → World → Prop} (h : YieldAt Fence.wide m P l args W R) : YieldAt Fence.wide m' P l args W R := by
  obtain ⟨fn, tmps, assign, body, h1, h2⟩ := h
  exact ⟨fn, tmps, assign, body, h1, h2.1, fun c cs _ => h2.2 c cs (room_wide _)⟩
theorem calls_rd {m lp : Nat} {P : Program} {f : FuncId} {args : Array Value} {w : World} {R : Ending → World → Prop} (h : Calls P f args w R) : CallsIn (Fence.wide.inRound lp) m P f args w R :=
  (callsIn_wide.2 h : CallsIn Fence.wide m P f args w R)
theorem round_rd {m m' lp l : Nat} {P : Program} {f : FuncId} {tmps : Array Value} {assign body : Code} {w : World} {R : Ending → World → Prop} (h : RoundIn Fence.wide m P l f tmps assign body w R) : RoundIn (Fence.wide.inRound lp) m' P l f tmps assign body w R :=
  ⟨h.1, fun c cs _ => h.2 c cs (room_wide _)⟩
theorem wpListIn_app {Fc : Fence} {n : Nat} {P : Program} {ops : Array Oper} {rest : List Oper} {o : Oper} {a : Act} {w : World} {Q : Exit → Act → World → Prop} (hg : o.guard = none) (s x : Operand) (t : TypeId)
    (hop : o.op = .call { callee := .builtin .append, args := #[s, x], argTypes := #[t, t] }) (base : Nat) (e : TypeId) (i : TypeInfo) (z : Value) (size bytes : Nat) (h1 : P.underlying t = some (.slice e)) (h2 : P.info? e = some i) (h3 : i.zero = some z) (h4 : i.size = size) (h5 : i.bytes = bytes) (h6 : z.cells.size = size) (h7 : 0 < size)
    (v : Value) (k : Nat) (xs : List Value) (hs : a.eval s = v) (hown : w.ownsRow base e size v k xs) (S : List Nat) (A : Option Addr) (m c : Nat) (news : List Value) (hx : a.eval x = .slice A m c) (hn : news.length = m * size) (hv : Vals w S A news) (h1c : ∀ u ∈ news, u.oneCell' = true)
    (b1 : k + m ≤ maxLen) (b2 : (k + m) * bytes ≤ 140737488355328) (b3 : base ≤ w.heap.size)
    (hK : ∀ v' w', w'.ownsRow base e size v' (k + m) (xs ++ news) → Kept v.ownBlock.toList w w' → (v'.ownBlock = v.ownBlock ∨ v'.ownBlock = some w.heap.size) → wpListIn Fc n P ops Q rest (a.put o.dst v') w') :
    wpListIn Fc n P ops Q (o :: rest) a w := by
  refine wpListIn_plain hg fun K hK' => ?_
  obtain ⟨v', w', hrun, r1, r2, r3⟩ := run_append_vals (P := P) base t o.type e i z size bytes h1 h2 h3 h4 h5 h6 h7 v k xs hown S A m c news hn hv h1c b1 b2 b3
  unfold Oper.wpIn
  refine ⟨?_, ?_⟩
  · simp [Oper.about, hop, resolve, Target.leads, Sem.run_pure]
  · rw [Oper.semAt_plain Fc _ _ (by rw [hop]; intro c hc'; cases hc')]
    simp [execOp, hop, resolve, invoke, builtin, hs, hx, hrun, Result.andThen]
    exact hK' _ _ (hK v' w' r1 ⟨r2.os, r2.tape, r2.output, r2.size, fun j hj hn => r2.block j hj (fun e => hn (by rw [← e]; simp))⟩ r3)
/-- A row of the call's own that grows: the box bg tells it. -/
structure RowB (W : World) (bg base : Nat) (st e : TypeId) (size : Nat) (v : Value) (n : Nat) (xs : List Value) : Prop where
  box : Blk W bg st #[v]
  own : W.ownsRow base e size v n xs
  lt : bg < base
section
variable {W W' Wp w1 : World} {bg base : Nat} {st e : TypeId} {size : Nat} {v v' : Value} {n n' : Nat} {xs xs' : List Value} {S : List Nat}
theorem RowB.kept (h : RowB W bg base st e size v n xs) (k : Kept S W W') (hb : bg ∉ S) (hs : ∀ y ∈ S, y ∉ v.ownBlock.toList) : RowB W' bg base st e size v n xs := ⟨k.blk h.box hb, owns.own_keep h.own k hs, h.lt⟩
theorem RowB.lts (h : RowB W bg base st e size v n xs) : ∀ y ∈ bg :: v.ownBlock.toList, y < W.heap.size := by
  intro y hy
  rcases List.mem_cons.1 hy with rfl | hy
  · exact h.box.lt
  · exact (owns.own_blk h.own y hy).2.1
theorem RowB.base_le (h : RowB W bg base st e size v n xs) : ∀ y ∈ v.ownBlock.toList, base ≤ y := fun y hy => (owns.own_blk h.own y hy).1
theorem RowB.mid (h : RowB W bg base st e size v n xs) (k0 : Kept [] W Wp) (k1 : Kept v.ownBlock.toList Wp w1) : Blk w1 bg st #[v] :=
  k1.blk (k0.blk h.box (by simp)) (fun hm => by have := h.base_le _ hm; have := h.lt; omega)
theorem RowB.grown (h : RowB W bg base st e size v n xs) (k0 : Kept [] W Wp) (k1 : Kept v.ownBlock.toList Wp w1) (ho : w1.ownsRow base e size v' n' xs') (hat : v'.ownBlock = v.ownBlock ∨ v'.ownBlock = some Wp.heap.size) :
    RowB (w1.setCell ⟨bg, 0, none⟩ v') bg base st e size v' n' xs' ∧ Kept (bg :: v.ownBlock.toList) W (w1.setCell ⟨bg, 0, none⟩ v') ∧ (∀ y ∈ bg :: v'.ownBlock.toList, y ∈ bg :: v.ownBlock.toList ∨ W.heap.size ≤ y) := by
  have hs := (Kept.refl [bg] w1).set_ (b := bg) (.inl (by simp)) 0 v'
  refine ⟨⟨(h.mid k0 k1).set_ 0 v', owns.own_keep ho hs (fun i hi hm => ?_), h.lt⟩, ((k0.mono (S' := bg :: v.ownBlock.toList) (by simp)).trans k1 (fun i hi => .inl (by simp only [List.mem_cons]; exact .inr hi))).trans hs (fun i hi => .inl (by simp at hi; simp [hi])), fun y hy => ?_⟩
  · have h1 := (owns.own_blk ho i hm).1
    have h2 := h.lt
    simp at hi
    omega
  · rcases List.mem_cons.1 hy with rfl | hy
    · exact .inl (by simp)
    · rcases hat with hh | hh
      · rw [hh] at hy
        exact .inl (by simp only [List.mem_cons]; exact .inr hy)
      · rw [hh] at hy
        simp at hy
        have := k0.size
        exact .inr (by omega)
end
theorem wide_pos {P : Program} {f : FuncId} {args : Array Value} {w : World} {R : Ending → World → Prop} (h : ∀ n, 1 ≤ n → CallsIn Fence.wide n P f args w R) : Calls P f args w R := callsIn_wide.1 (h 3 (by decide))
theorem wide_all {P : Program} {f : FuncId} {args : Array Value} {w : World} {R : Ending → World → Prop} (h : ∀ n, CallsIn Fence.wide n P f args w R) : Calls P f args w R := callsIn_wide.1 (h 3)
section
variable {α : Type}
/-- What a client's word bears: blocks from z on turn that are none of the client's. -/
def Steady (z : Nat) (J : List α → List Nat → World → Prop) : Prop := ∀ pre C W W' S, J pre C W → Kept S W W' → (∀ y ∈ S, z ≤ y ∧ y ∉ C) → J pre C W'
def Bound (J : List α → List Nat → World → Prop) : Prop := ∀ pre C W, J pre C W → ∀ y ∈ C, y < W.heap.size
/-- An iterator that tells l: it reads blocks R, and turns none but its own. -/
def SeqT (P : Program) (gf : Nat) (lb : Array Value) (encs : α → Array Value) (l : List α) (R : List Nat) (w : World) : Prop :=
  ∀ (lp : Nat) (J Jx : List α → List Nat → World → Prop) (C0 : List Nat) (W : World), Kept [] w W → Steady W.heap.size J → Steady W.heap.size Jx → Bound J → (∀ y ∈ R, y ∉ C0) →
    (∀ pre C W1 x, J pre C W1 → pre ++ [x] <+: l → YieldAt Fence.wide 1 P lp (encs x) W1 fun e W' =>
      ∃ C', (∀ y ∈ C', y ∈ C ∨ W1.heap.size ≤ y) ∧ Kept C W1 W' ∧ ((e = .returned (.bool true) ∧ J (pre ++ [x]) C' W') ∨ (e = .returned (.bool false) ∧ Jx (pre ++ [x]) C' W'))) →
    J [] C0 W → Calls P gf (#[.func (.yield lp) #[] #[]] ++ lb) W fun e W' => (∃ v, e = .returned v) ∧ ∃ C', J l C' W' ∨ ∃ pre, pre <+: l ∧ Jx pre C' W'
/-- Where an iterator stands that began at W, with a client who may turn C0. -/
def Run (J : List α → List Nat → World → Prop) (C0 : List Nat) (W : World) (pre : List α) (W1 : World) : Prop := ∃ C, J pre C W1 ∧ (∀ y ∈ C, y ∈ C0 ∨ W.heap.size ≤ y) ∧ Kept C0 W W1
/-- What an iterator may do at x. -/
def YieldsT (P : Program) (lp : Nat) (encs : α → Array Value) (l : List α) (J Jx : List α → List Nat → World → Prop) (C0 : List Nat) (W : World) : Prop :=
  ∀ pre x W1, Run J C0 W pre W1 → pre ++ [x] <+: l → YieldAt Fence.wide 1 P lp (encs x) W1 fun e W' => (e = .returned (.bool true) ∧ Run J C0 W (pre ++ [x]) W') ∨ (e = .returned (.bool false) ∧ Run Jx C0 W (pre ++ [x]) W')
variable {P : Program} {lp : Nat} {encs : α → Array Value} {l : List α} {J Jx : List α → List Nat → World → Prop} {C0 : List Nat} {W W1 W2 : World} {pre : List α}
theorem Run.start (h : J [] C0 W) : Run J C0 W [] W := ⟨C0, h, fun _ hy => .inl hy, Kept.refl _ _⟩
theorem Run.keep (h : Run J C0 W pre W1) (hJ : Steady W.heap.size J) (k : Kept [] W1 W2) : Run J C0 W pre W2 := by
  obtain ⟨C, h1, h2, h3⟩ := h
  exact ⟨C, hJ _ _ _ _ [] h1 k (by simp), h2, h3.trans k (by simp)⟩
theorem Run.out (h : Run J C0 W pre W1) : ∃ C, J pre C W1 := by obtain ⟨C, h, _⟩ := h; exact ⟨C, h⟩
theorem Run.old {t : TypeId} {cs : Array Value} (h : Run J C0 W pre W1) {y : Nat} (hb : Blk W y t cs) (hy : y ∉ C0) : Blk W1 y t cs := by
  obtain ⟨C, _, _, h3⟩ := h
  exact h3.blk hb hy
theorem yields_of (hY : ∀ pre C W1 x, J pre C W1 → pre ++ [x] <+: l → YieldAt Fence.wide 1 P lp (encs x) W1 fun e W' =>
      ∃ C', (∀ y ∈ C', y ∈ C ∨ W1.heap.size ≤ y) ∧ Kept C W1 W' ∧ ((e = .returned (.bool true) ∧ J (pre ++ [x]) C' W') ∨ (e = .returned (.bool false) ∧ Jx (pre ++ [x]) C' W'))) : YieldsT P lp encs l J Jx C0 W := by
  rintro pre x W1 ⟨C, h1, h2, h3⟩ hp
  refine (hY pre C W1 x h1 hp).mono ?_
  rintro e W' ⟨C', hc, hk, h⟩
  have hs : ∀ y ∈ C', y ∈ C0 ∨ W.heap.size ≤ y := fun y hy => (hc y hy).elim (h2 y) (fun h => .inr (Nat.le_trans h3.size h))
  have hkk : Kept C0 W W' := h3.trans hk h2
  exact h.imp (fun ⟨he, hj⟩ => ⟨he, C', hj, hs, hkk⟩) (fun ⟨he, hj⟩ => ⟨he, C', hj, hs, hkk⟩)
end
section
variable {α : Type} {P : Program} {n : Nat}
theorem range_nest {g : Operand} {ps : Array Tmp} {assign body : Code} {Q : Exit → Act → World → Prop} {a : Act} {w : World} (h1 : 1 ≤ n) {gf : Nat} {lb : Array Value}
    (hg : a.eval g = .func (.func gf) #[] lb) (eg : ∀ args w, (callFunc gf args).run P w = .ok (.enter gf args) w) (encs : α → Array Value) (hps : ∀ x, (encs x).size = ps.size)
    (l : List α) (C0 : List Nat) (N : List α → List Nat → World → Prop) (Nx : Code → List α → List Nat → World → Prop)
    (hN : Steady w.heap.size N) (hNx : ∀ c, Steady w.heap.size (Nx c))
    (hC : Bound N) (R : List Nat) (hR : ∀ y ∈ R, y ∉ C0 ∧ y < w.heap.size)
    (hseq : SeqT P gf lb encs l R w)
    (hC0 : ∀ y ∈ C0, y < w.heap.size) (h0 : ∀ W, Kept [] w W → w.heap.size + 1 < W.heap.size → N [] C0 W)
    (hround : ∀ (lp : Nat) (pre : List α) (C : List Nat) (x : α) (W : World) (K : Act → World → Prop), N pre C W → pre ++ [x] <+: l → w.heap.size ∉ C → w.heap.size + 1 ∉ C → w.heap.size + 1 < W.heap.size →
      (∀ a' W1, Kept [] W W1 → (∀ W2, Kept [w.heap.size + 1] W1 W2 → body.wpIn (Fence.wide.inRound lp) (n - 1 - 1) P (TurnPost C (pre ++ [x]) N Nx W2) a' W2) → K a' W1) →
      assign.wpIn (Fence.wide.inRound lp) (n - 1 - 1) P (Exit.then K (fun _ _ _ => False)) { tmps := (ps.zip (encs x)).foldl (fun t (p, v) => t.setIfInBounds p v) a.tmps, defers := [] } W)
    (hdone : ∀ (D : Nat) (C : List Nat) (W : World), D = w.heap.size → N l C W → D ∉ C → W.heap[D]? = some (.deferred (some [])) → Q .normal { a with defers := { target := .collected D, args := #[] } :: a.defers } W)
    (hstop : ∀ (D : Nat) (C : List Nat) (c : Code) (pre : List α) (W : World), D = w.heap.size → pre <+: l → Nx c pre C W → D ∉ C → W.heap[D]? = some (.deferred (some [])) → c.wpIn Fence.wide n P Q { a with defers := { target := .collected D, args := #[] } :: a.defers } W) :
    (Code.rangeFunc g ps assign body).wpIn Fence.wide n P Q a w := by
  refine wpIn_rangeFunc fun fn hfn => ?_
  obtain ⟨D, hD⟩ : ∃ D, w.heap.size = D := ⟨_, rfl⟩
  rw [hD] at hN hNx hR hC0 h0 hround
  obtain ⟨rc, hrc'⟩ : ∃ rc : LoopState → Option Code → Loop, rc = fun st pe => { state := st, pending := pe, fn, tmps := a.tmps, params := ps, assign, body, defers := D } := ⟨_, rfl⟩
  have e1 : (Instr.enterLoop fn a.tmps ps assign body none).run P w = .ok (D + 1, [{ target := .collected D, args := #[] }]) ((w.alloc (.deferred (some []))).alloc (.loop (rc .ready none))) := by
    rw [run_enterLoop_outer, hrc', hD]
  obtain ⟨W1, hW1⟩ : ∃ W1, (w.alloc (.deferred (some []))).alloc (.loop (rc .ready none)) = W1 := ⟨_, rfl⟩
  have hk1 : Kept [] w W1 := by rw [← hW1]; exact ((Kept.refl [] w).alloc _).alloc _
  rw [hW1] at e1
  have r1 : W1.heap[D + 1]? = some (.loop (rc .ready none)) := by
    have := World.alloc_heap_new (w.alloc (.deferred (some []))) (.loop (rc .ready none))
    rwa [World.size_alloc, hW1, hD] at this
  have d1 : W1.heap[D]? = some (.deferred (some [])) := by
    rw [← hW1, ← hD]
    exact (Below.heap_alloc _ _ _ (by simp)).trans (World.alloc_heap_new w _)
  have hs1 : D + 1 < W1.heap.size := (Array.getElem?_eq_some_iff.1 r1).1
  refine ⟨D + 1, _, W1, { target := .fn (.func gf) lb, args := #[.func (.yield (D + 1)) #[] #[]] }, W1, gf, #[.func (.yield (D + 1)) #[] #[]] ++ lb, W1, e1, ?_, fun _ _ => trivial, ?_, fun _ => h1, ?_⟩
  · simp only [resolve, hg]
    simp [go_sem]
  · simp [invoke, go_sem, eg]
  have hx0 : D ∉ C0 ∧ D + 1 ∉ C0 := ⟨fun hm => by have := hC0 _ hm; omega, fun hm => by have := hC0 _ hm; omega⟩
  refine (callsIn_wide.2 (hseq (D + 1)
    (fun pre C W => ∃ Cb, C = (D + 1) :: D :: Cb ∧ N pre Cb W ∧ W.heap[D + 1]? = some (.loop (rc .ready none)) ∧ W.heap[D]? = some (.deferred (some [])) ∧ D ∉ Cb ∧ D + 1 ∉ Cb)
    (fun pre C W => ∃ Cb c, C = (D + 1) :: D :: Cb ∧ Nx c pre Cb W ∧ W.heap[D + 1]? = some (.loop (rc .done (some c))) ∧ W.heap[D]? = some (.deferred (some [])) ∧ D ∉ Cb ∧ D + 1 ∉ Cb)
    ((D + 1) :: D :: C0) W1 hk1 ?_ ?_ ?_ ?_ ?_ ⟨C0, rfl, h0 W1 hk1 hs1, r1, d1, hx0⟩)).mono ?_
  · rintro pre C W W' S ⟨Cb, rfl, hn, hr, hd, hx⟩ hk hS
    have hl1 := (Array.getElem?_eq_some_iff.1 hr).1
    have hz : ∀ y ∈ S, D + 1 < y ∧ y ∉ Cb := fun y hy => ⟨by have := (hS y hy).1; omega, fun hm => (hS y hy).2 (by simp [hm])⟩
    exact ⟨Cb, rfl, hN _ _ _ _ S hn hk (fun y hy => ⟨by have := (hz y hy).1; omega, (hz y hy).2⟩), (hk.block _ hl1 (fun hm => by have := (hz _ hm).1; omega)).trans hr, (hk.block _ (by omega) (fun hm => by have := (hz _ hm).1; omega)).trans hd, hx⟩
  · rintro pre C W W' S ⟨Cb, c, rfl, hn, hr, hd, hx⟩ hk hS
    have hl1 := (Array.getElem?_eq_some_iff.1 hr).1
    have hz : ∀ y ∈ S, D + 1 < y ∧ y ∉ Cb := fun y hy => ⟨by have := (hS y hy).1; omega, fun hm => (hS y hy).2 (by simp [hm])⟩
    exact ⟨Cb, c, rfl, hNx _ _ _ _ _ S hn hk (fun y hy => ⟨by have := (hz y hy).1; omega, (hz y hy).2⟩), (hk.block _ hl1 (fun hm => by have := (hz _ hm).1; omega)).trans hr, (hk.block _ (by omega) (fun hm => by have := (hz _ hm).1; omega)).trans hd, hx⟩
  · rintro pre C W ⟨Cb, rfl, hn, hr, hd, hx⟩ y hy
    have t1 := (Array.getElem?_eq_some_iff.1 hr).1
    have t2 := (Array.getElem?_eq_some_iff.1 hd).1
    rcases List.mem_cons.1 hy with rfl | hy
    · exact t1
    rcases List.mem_cons.1 hy with rfl | hy
    · exact t2
    · exact hC _ _ _ hn y hy
  · intro y hy hm
    have h1 := hR y hy
    rcases List.mem_cons.1 hm with h | hm
    · omega
    rcases List.mem_cons.1 hm with h | hm
    · omega
    · exact h1.1 hm
  · rintro pre C W x ⟨Cb, rfl, hn, hr, hd, hx⟩ hpre
    have hlt : D + 1 < W.heap.size := (Array.getElem?_eq_some_iff.1 hr).1
    have hy := run_yield (P := P) (args := encs x) hr (by rw [hrc']; exact hps x)
    rw [hrc'] at hy
    refine yield_lv (m := n - 1 - 1) ⟨fn, _, assign, body, hy, roundIn_of_wpIn hfn (hround _ pre Cb x W _ hn hpre hx.1 hx.2 hlt ?_)⟩
    intro a' Wa hka hb
    have ra : Wa.heap[D + 1]? = some (.loop (rc .ready none)) := (hka.block _ hlt (by simp)).trans hr
    have da : Wa.heap[D]? = some (.deferred (some [])) := (hka.block _ (by omega) (by simp)).trans hd
    have hlta : D + 1 < Wa.heap.size := (Array.getElem?_eq_some_iff.1 ra).1
    refine ⟨_, run_beginRound ra (by rw [hrc']), ?_⟩
    obtain ⟨Wb, hWb⟩ : ∃ Wb, Wa.putObj (D + 1) (.loop { rc .ready none with state := .busy }) = Wb := ⟨_, rfl⟩
    have hkb : Kept [D + 1] Wa Wb := by rw [← hWb]; exact kept_putO _ _ _
    have rb : Wb.heap[D + 1]? = some (.loop { rc .ready none with state := .busy }) := by rw [← hWb]; exact World.putObj_heap_same hlta
    have db : Wb.heap[D]? = some (.deferred (some [])) := (hkb.block _ (by omega) (by simp)).trans da
    rw [hWb]
    have hlast : ∀ (jump : Option Code) (W3 : World), Kept Cb Wb W3 → (Instr.endRound (D + 1) jump).run P W3 = .ok (.bool jump.isNone) (W3.putObj (D + 1) (.loop (rc (if jump.isNone then .ready else .done) jump))) ∧
        (W3.putObj (D + 1) (.loop (rc (if jump.isNone then .ready else .done) jump))).heap[D + 1]? = some (.loop (rc (if jump.isNone then .ready else .done) jump)) ∧
        (W3.putObj (D + 1) (.loop (rc (if jump.isNone then .ready else .done) jump))).heap[D]? = some (.deferred (some [])) ∧
        Kept ((D + 1) :: D :: Cb) W (W3.putObj (D + 1) (.loop (rc (if jump.isNone then .ready else .done) jump))) := fun jump W3 hk3 => by
      have r3 := (hk3.block _ (Array.getElem?_eq_some_iff.1 rb).1 hx.2).trans rb
      have d3 := (hk3.block _ (Array.getElem?_eq_some_iff.1 db).1 hx.1).trans db
      have he := run_endRound (P := P) jump r3
      rw [hrc'] at he
      refine ⟨by rw [hrc']; exact he, World.putObj_heap_same (Array.getElem?_eq_some_iff.1 r3).1, (World.putObj_heap_other (by omega)).trans d3, ?_⟩
      exact ((((hka.mono (S' := (D + 1) :: D :: Cb) (by simp)).trans hkb (by simp)).trans hk3 (fun i hi => .inl (by simp [hi]))).trans (kept_putO _ _ _) (by simp))
    have hCC : ∀ (C' : List Nat), (∀ y ∈ C', y ∈ Cb ∨ Wb.heap.size ≤ y) → (∀ y ∈ (D + 1) :: D :: C', y ∈ (D + 1) :: D :: Cb ∨ W.heap.size ≤ y) ∧ D ∉ C' ∧ D + 1 ∉ C' := fun C' hC' => by
      have hs : W.heap.size ≤ Wb.heap.size := Nat.le_trans hka.size hkb.size
      refine ⟨fun y hy => ?_, fun hm => (hC' _ hm).elim hx.1 (fun h => by omega), fun hm => (hC' _ hm).elim hx.2 (fun h => by omega)⟩
      rcases List.mem_cons.1 hy with rfl | hy
      · exact .inl (by simp)
      rcases List.mem_cons.1 hy with rfl | hy
      · exact .inl (by simp)
      exact (hC' y hy).imp (fun h => by simp [h]) (fun h => by omega)
    refine wpIn_mono (hb Wb hkb) ?_
    rintro e a3 W3 hp
    cases e with
    | normal =>
      obtain ⟨C', hC', hk3, hn3⟩ := hp
      obtain ⟨he, r4, d4, hkk⟩ := hlast none W3 hk3
      obtain ⟨hc1, hc2⟩ := hCC C' hC'
      exact ⟨_, _, he, (D + 1) :: D :: C', hc1, hkk, .inl ⟨rfl, C', rfl, hN _ _ _ _ [D + 1] hn3 (kept_putO _ _ _) (by simp; exact hc2.2), r4, d4, hc2⟩⟩
    | ret =>
      obtain ⟨C', hC', hk3, hn3⟩ := hp
      obtain ⟨he, r4, d4, hkk⟩ := hlast (some .ret) W3 hk3
      obtain ⟨hc1, hc2⟩ := hCC C' hC'
      exact ⟨_, _, he, (D + 1) :: D :: C', hc1, hkk, .inr ⟨rfl, C', _, rfl, hNx _ _ _ _ _ [D + 1] hn3 (kept_putO _ _ _) (by simp; exact hc2.2), r4, d4, hc2⟩⟩
    | exit i =>
      obtain ⟨C', hC', hk3, hn3⟩ := hp
      obtain ⟨he, r4, d4, hkk⟩ := hlast (some (.exit i)) W3 hk3
      obtain ⟨hc1, hc2⟩ := hCC C' hC'
      exact ⟨_, _, he, (D + 1) :: D :: C', hc1, hkk, .inr ⟨rfl, C', _, rfl, hNx _ _ _ _ _ [D + 1] hn3 (kept_putO _ _ _) (by simp; exact hc2.2), r4, d4, hc2⟩⟩
    | goto i =>
      obtain ⟨C', hC', hk3, hn3⟩ := hp
      obtain ⟨he, r4, d4, hkk⟩ := hlast (some (.goto i)) W3 hk3
      obtain ⟨hc1, hc2⟩ := hCC C' hC'
      exact ⟨_, _, he, (D + 1) :: D :: C', hc1, hkk, .inr ⟨rfl, C', _, rfl, hNx _ _ _ _ _ [D + 1] hn3 (kept_putO _ _ _) (by simp; exact hc2.2), r4, d4, hc2⟩⟩
    | panic ch => exact hp.elim
    | outgrown => exact hp.elim
  · rintro e W2 ⟨⟨v, rfl⟩, C', (⟨Cb, rfl, hn, hr, hd, hx⟩ | ⟨pre, hpl, Cb, c, rfl, hn, hr, hd, hx⟩)⟩
    · have he := run_endLoop (P := P) hr (by rw [hrc']; simp)
      exact ⟨none, _, by rw [he, hrc'], hdone D Cb _ hD.symm (hN _ _ _ _ [D + 1] hn (kept_putO _ _ _) (by simp; exact hx.2)) hx.1 ((World.putObj_heap_other (by omega)).trans hd)⟩
    · have he := run_endLoop (P := P) hr (by rw [hrc']; simp)
      exact ⟨some c, _, by rw [he, hrc'], hstop D Cb c pre _ hD.symm hpl (hNx _ _ _ _ _ [D + 1] hn (kept_putO _ _ _) (by simp; exact hx.2)) hx.1 ((World.putObj_heap_other (by omega)).trans hd)⟩
end
end Go.Proofs.Ytfeepmahipecpaa.base
