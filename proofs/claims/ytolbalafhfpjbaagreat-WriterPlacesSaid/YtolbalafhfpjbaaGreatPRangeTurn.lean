import Derived.Test.YtolbalafhfpjbaaGreatPHeld
import Derived.RangeFuncNested
import Derived.RangeFuncBound
import Derived.RangeFuncCalls
import Derived.RangeFuncLeaves
import Derived.RangeFuncKeeps
import Derived.RangeFuncWrites
namespace Go.Proofs.YtolbalafhfpjbaaGreat.base
set_option linter.unusedSimpArgs false
set_option linter.unusedVariables false
open Go.RowKit mem
theorem kept_putO (w : World) (i : Nat) (o : Obj) : Kept [i] w (w.putObj i o) := by
 refine ⟨rfl, rfl, rfl, ?_, fun k hk hn => ?_⟩
 ·unfold World.putObj
  simp
 ·simp at hn
  exact World.putObj_heap_other hn
section
variable {α : Type} {P : Program} {n : Nat}
def TurnPost (C : List Nat) (pre : List α) (N : List α → List Nat → World → Prop) (Nx : Code → List α → List Nat → World → Prop) (W : World) : Exit → Act → World → Prop
 | .normal, _, W' => ∃ C', (∀ y ∈ C', y ∈ C ∨ W.heap.size ≤ y) ∧ Kept C W W' ∧ N pre C' W'
 | .ret, _, W' => ∃ C', (∀ y ∈ C', y ∈ C ∨ W.heap.size ≤ y) ∧ Kept C W W' ∧ Nx .ret pre C' W'
 | .exit i, _, W' => ∃ C', (∀ y ∈ C', y ∈ C ∨ W.heap.size ≤ y) ∧ Kept C W W' ∧ Nx (.exit i) pre C' W'
 | .goto i, _, W' => ∃ C', (∀ y ∈ C', y ∈ C ∨ W.heap.size ≤ y) ∧ Kept C W W' ∧ Nx (.goto i) pre C' W'
 | _, _, _ => False
theorem range_turn {g : Operand} {ps : Array Tmp} {assign body : Code} {Q : Exit → Act → World → Prop} {a : Act} {w : World} (h1 : 1 ≤ n) {gf : Nat} {lb : Array Value}
  (hg : a.eval g = .func (.func gf) #[] lb) (eg : ∀ args w, (callFunc gf args).run P w = .ok (.enter gf args) w) (encs : α → Array Value) (hps : ∀ x, (encs x).size = ps.size)
  (l : List α) (C0 : List Nat) (N : List α → List Nat → World → Prop) (Nx : Code → List α → List Nat → World → Prop)
  (hN : ∀ pre C W W', N pre C W → w.heap.size ∉ C → w.heap.size + 1 ∉ C → Kept [w.heap.size + 1, w.heap.size] W W' → N pre C W') (hNx : ∀ c pre C W W', Nx c pre C W → w.heap.size ∉ C → w.heap.size + 1 ∉ C → Kept [w.heap.size + 1, w.heap.size] W W' → Nx c pre C W')
  (hC : ∀ pre C W, N pre C W → ∀ y ∈ C, y < W.heap.size)
  (hseq : ∀ (lp : Nat) (J Jx : List α → List Nat → World → Prop), (∀ pre C W m, J pre C W → J pre C (W.drewN m)) → (∀ pre C W, J pre C W → ∀ y ∈ C, y < W.heap.size) →
   (∀ pre C W x, J pre C W → pre ++ [x] <+: l → YieldAt Fence.wide (n - 1 - 1) P lp (encs x) W fun e W' =>
    ∃ C', (∀ y ∈ C', y ∈ C ∨ W.heap.size ≤ y) ∧ Kept C W W' ∧ ((e = .returned (.bool true) ∧ J (pre ++ [x]) C' W') ∨ (e = .returned (.bool false) ∧ Jx (pre ++ [x]) C' W'))) →
   ∀ W, Kept [] w W → J [] ((w.heap.size + 1) :: w.heap.size :: C0) W → CallsIn Fence.wide (n - 1) P gf (#[.func (.yield lp) #[] #[]] ++ lb) W fun e W' => (∃ v, e = .returned v) ∧ ∃ C', J l C' W' ∨ ∃ pre, Jx pre C' W')
  (hC0 : ∀ y ∈ C0, y < w.heap.size) (h0 : ∀ W, Kept [] w W → w.heap.size + 1 < W.heap.size → N [] C0 W)
  (hround : ∀ (lp : Nat) (pre : List α) (C : List Nat) (x : α) (W : World) (K : Act → World → Prop), N pre C W → pre ++ [x] <+: l → w.heap.size ∉ C → w.heap.size + 1 ∉ C → w.heap.size + 1 < W.heap.size →
   (∀ a' W1, Kept [] W W1 → (∀ W2, Kept [w.heap.size + 1] W1 W2 → body.wpIn (Fence.wide.inRound lp) (n - 1 - 1) P (TurnPost C (pre ++ [x]) N Nx W2) a' W2) → K a' W1) →
   assign.wpIn (Fence.wide.inRound lp) (n - 1 - 1) P (Exit.then K (fun _ _ _ => False)) { tmps := (ps.zip (encs x)).foldl (fun t (p, v) => t.setIfInBounds p v) a.tmps, defers := [] } W)
  (hdone : ∀ (D : Nat) (C : List Nat) (W : World), D = w.heap.size → N l C W → D ∉ C → W.heap[D]? = some (.deferred (some [])) → Q .normal { a with defers := { target := .collected D, args := #[] } :: a.defers } W)
  (hstop : ∀ (D : Nat) (C : List Nat) (c : Code) (pre : List α) (W : World), D = w.heap.size → Nx c pre C W → D ∉ C → W.heap[D]? = some (.deferred (some [])) → c.wpIn Fence.wide n P Q { a with defers := { target := .collected D, args := #[] } :: a.defers } W) :
  (Code.rangeFunc g ps assign body).wpIn Fence.wide n P Q a w := by
 refine wpIn_rangeFunc fun fn hfn => ?_
 obtain ⟨D, hD⟩ : ∃ D, w.heap.size = D := ⟨_, rfl⟩
 rw [hD] at hN hNx hseq hC0 h0 hround
 obtain ⟨rc, hrc'⟩ : ∃ rc : LoopState → Option Code → Loop, rc = fun st pe => { state := st, pending := pe, fn, tmps := a.tmps, params := ps, assign, body, defers := D } := ⟨_, rfl⟩
 have e1 : (Instr.enterLoop fn a.tmps ps assign body none).run P w = .ok (D + 1, [{ target := .collected D, args := #[] }]) ((w.alloc (.deferred (some []))).alloc (.loop (rc .ready none))) := by
  rw [run_enterLoop_outer, hrc', hD]
 obtain ⟨W1, hW1⟩ : ∃ W1, (w.alloc (.deferred (some []))).alloc (.loop (rc .ready none)) = W1 := ⟨_, rfl⟩
 have hk1 : Kept [] w W1 := by rw [← hW1]; exact ((Kept.refl [] w).alloc _).alloc _
 rw [hW1] at e1
 have r1 : W1.heap[D + 1]? = some (.loop (rc .ready none)) := by
  have := World.alloc_heap_new (w.alloc (.deferred (some []))) (.loop (rc .ready none))
  rwa [World.size_alloc, hW1, hD] at this
 have d1 : W1.heap[D]? = some (.deferred (some [])) := by
  rw [← hW1, ← hD]
  exact (Below.heap_alloc _ _ _ (by simp)).trans (World.alloc_heap_new w _)
 have hs1 : D + 1 < W1.heap.size := (Array.getElem?_eq_some_iff.1 r1).1
 refine ⟨D + 1, _, W1, { target := .fn (.func gf) lb, args := #[.func (.yield (D + 1)) #[] #[]] }, W1, gf, #[.func (.yield (D + 1)) #[] #[]] ++ lb, W1, e1, ?_, fun _ _ => trivial, ?_, fun _ => h1, ?_⟩
 ·simp only [resolve, hg]
  simp [go_sem]
 ·simp [invoke, go_sem, eg]
 have hx0 : D ∉ C0 ∧ D + 1 ∉ C0 := ⟨fun hm => by have := hC0 _ hm; omega, fun hm => by have := hC0 _ hm; omega⟩
 refine (hseq (D + 1)
  (fun pre C W => ∃ Cb, C = (D + 1) :: D :: Cb ∧ N pre Cb W ∧ W.heap[D + 1]? = some (.loop (rc .ready none)) ∧ W.heap[D]? = some (.deferred (some [])) ∧ D ∉ Cb ∧ D + 1 ∉ Cb)
  (fun pre C W => ∃ Cb c, C = (D + 1) :: D :: Cb ∧ Nx c pre Cb W ∧ W.heap[D + 1]? = some (.loop (rc .done (some c))) ∧ W.heap[D]? = some (.deferred (some [])) ∧ D ∉ Cb ∧ D + 1 ∉ Cb)
  ?_ ?_ ?_ W1 hk1 ⟨C0, rfl, h0 W1 hk1 hs1, r1, d1, hx0⟩).mono ?_
 ·rintro pre C W m ⟨Cb, rfl, hn, hr, hd, hx⟩
  exact ⟨Cb, rfl, hN _ _ _ _ hn hx.1 hx.2 (((Kept.refl [] W).drewN m).mono (by simp)), hr, hd, hx⟩
 ·rintro pre C W ⟨Cb, rfl, hn, hr, hd, hx⟩ y hy
  have t1 := (Array.getElem?_eq_some_iff.1 hr).1
  have t2 := (Array.getElem?_eq_some_iff.1 hd).1
  rcases List.mem_cons.1 hy with rfl | hy
  ·exact t1
  rcases List.mem_cons.1 hy with rfl | hy
  ·exact t2
  ·exact hC _ _ _ hn y hy
 ·rintro pre C W x ⟨Cb, rfl, hn, hr, hd, hx⟩ hpre
  have hlt : D + 1 < W.heap.size := (Array.getElem?_eq_some_iff.1 hr).1
  have hy := run_yield (P := P) (args := encs x) hr (by rw [hrc']; exact hps x)
  rw [hrc'] at hy
  refine ⟨fn, _, assign, body, hy, roundIn_of_wpIn hfn (hround _ pre Cb x W _ hn hpre hx.1 hx.2 hlt ?_)⟩
  intro a' Wa hka hb
  have ra : Wa.heap[D + 1]? = some (.loop (rc .ready none)) := (hka.block _ hlt (by simp)).trans hr
  have da : Wa.heap[D]? = some (.deferred (some [])) := (hka.block _ (by omega) (by simp)).trans hd
  have hlta : D + 1 < Wa.heap.size := (Array.getElem?_eq_some_iff.1 ra).1
  refine ⟨_, run_beginRound ra (by rw [hrc']), ?_⟩
  obtain ⟨Wb, hWb⟩ : ∃ Wb, Wa.putObj (D + 1) (.loop { rc .ready none with state := .busy }) = Wb := ⟨_, rfl⟩
  have hkb : Kept [D + 1] Wa Wb := by rw [← hWb]; exact kept_putO _ _ _
  have rb : Wb.heap[D + 1]? = some (.loop { rc .ready none with state := .busy }) := by rw [← hWb]; exact World.putObj_heap_same hlta
  have db : Wb.heap[D]? = some (.deferred (some [])) := (hkb.block _ (by omega) (by simp)).trans da
  rw [hWb]
  have hlast : ∀ (jump : Option Code) (W3 : World), Kept Cb Wb W3 → (Instr.endRound (D + 1) jump).run P W3 = .ok (.bool jump.isNone) (W3.putObj (D + 1) (.loop (rc (if jump.isNone then .ready else .done) jump))) ∧
    (W3.putObj (D + 1) (.loop (rc (if jump.isNone then .ready else .done) jump))).heap[D + 1]? = some (.loop (rc (if jump.isNone then .ready else .done) jump)) ∧
    (W3.putObj (D + 1) (.loop (rc (if jump.isNone then .ready else .done) jump))).heap[D]? = some (.deferred (some [])) ∧
    Kept ((D + 1) :: D :: Cb) W (W3.putObj (D + 1) (.loop (rc (if jump.isNone then .ready else .done) jump))) := fun jump W3 hk3 => by
   have r3 := (hk3.block _ (Array.getElem?_eq_some_iff.1 rb).1 hx.2).trans rb
   have d3 := (hk3.block _ (Array.getElem?_eq_some_iff.1 db).1 hx.1).trans db
   have he := run_endRound (P := P) jump r3
   rw [hrc'] at he
   refine ⟨by rw [hrc']; exact he, World.putObj_heap_same (Array.getElem?_eq_some_iff.1 r3).1, (World.putObj_heap_other (by omega)).trans d3, ?_⟩
   exact ((((hka.mono (S' := (D + 1) :: D :: Cb) (by simp)).trans hkb (by simp)).trans hk3 (fun i hi => .inl (by simp [hi]))).trans (kept_putO _ _ _) (by simp))
  have hCC : ∀ (C' : List Nat), (∀ y ∈ C', y ∈ Cb ∨ Wb.heap.size ≤ y) → (∀ y ∈ (D + 1) :: D :: C', y ∈ (D + 1) :: D :: Cb ∨ W.heap.size ≤ y) ∧ D ∉ C' ∧ D + 1 ∉ C' := fun C' hC' => by
   have hs : W.heap.size ≤ Wb.heap.size := Nat.le_trans hka.size hkb.size
   refine ⟨fun y hy => ?_, fun hm => (hC' _ hm).elim hx.1 (fun h => by omega), fun hm => (hC' _ hm).elim hx.2 (fun h => by omega)⟩
   rcases List.mem_cons.1 hy with rfl | hy
   ·exact .inl (by simp)
   rcases List.mem_cons.1 hy with rfl | hy
   ·exact .inl (by simp)
   exact (hC' y hy).imp (fun h => by simp [h]) (fun h => by omega)
  refine wpIn_mono (hb Wb hkb) ?_
  rintro e a3 W3 hp
  cases e with
  | normal =>
   obtain ⟨C', hC', hk3, hn3⟩ := hp
   obtain ⟨he, r4, d4, hkk⟩ := hlast none W3 hk3
   obtain ⟨hc1, hc2⟩ := hCC C' hC'
   exact ⟨_, _, he, (D + 1) :: D :: C', hc1, hkk, .inl ⟨rfl, C', rfl, hN _ _ _ _ hn3 hc2.1 hc2.2 ((kept_putO _ _ _).mono (by simp)), r4, d4, hc2⟩⟩
  | ret =>
   obtain ⟨C', hC', hk3, hn3⟩ := hp
   obtain ⟨he, r4, d4, hkk⟩ := hlast (some .ret) W3 hk3
   obtain ⟨hc1, hc2⟩ := hCC C' hC'
   exact ⟨_, _, he, (D + 1) :: D :: C', hc1, hkk, .inr ⟨rfl, C', _, rfl, hNx _ _ _ _ _ hn3 hc2.1 hc2.2 ((kept_putO _ _ _).mono (by simp)), r4, d4, hc2⟩⟩
  | exit i =>
   obtain ⟨C', hC', hk3, hn3⟩ := hp
   obtain ⟨he, r4, d4, hkk⟩ := hlast (some (.exit i)) W3 hk3
   obtain ⟨hc1, hc2⟩ := hCC C' hC'
   exact ⟨_, _, he, (D + 1) :: D :: C', hc1, hkk, .inr ⟨rfl, C', _, rfl, hNx _ _ _ _ _ hn3 hc2.1 hc2.2 ((kept_putO _ _ _).mono (by simp)), r4, d4, hc2⟩⟩
  | goto i =>
   obtain ⟨C', hC', hk3, hn3⟩ := hp
   obtain ⟨he, r4, d4, hkk⟩ := hlast (some (.goto i)) W3 hk3
   obtain ⟨hc1, hc2⟩ := hCC C' hC'
   exact ⟨_, _, he, (D + 1) :: D :: C', hc1, hkk, .inr ⟨rfl, C', _, rfl, hNx _ _ _ _ _ hn3 hc2.1 hc2.2 ((kept_putO _ _ _).mono (by simp)), r4, d4, hc2⟩⟩
  | panic ch => exact hp.elim
  | outgrown => exact hp.elim
 ·rintro e W2 ⟨⟨v, rfl⟩, C', (⟨Cb, rfl, hn, hr, hd, hx⟩ | ⟨pre, Cb, c, rfl, hn, hr, hd, hx⟩)⟩
  ·have he := run_endLoop (P := P) hr (by rw [hrc']; simp)
   exact ⟨none, _, by rw [he, hrc'], hdone D Cb _ hD.symm (hN _ _ _ _ hn hx.1 hx.2 ((kept_putO _ _ _).mono (by simp))) hx.1 ((World.putObj_heap_other (by omega)).trans hd)⟩
  ·have he := run_endLoop (P := P) hr (by rw [hrc']; simp)
   exact ⟨some c, _, by rw [he, hrc'], hstop D Cb c pre _ hD.symm (hNx _ _ _ _ _ hn hx.1 hx.2 ((kept_putO _ _ _).mono (by simp))) hx.1 ((World.putObj_heap_other (by omega)).trans hd)⟩
end
end Go.Proofs.YtolbalafhfpjbaaGreat.base
