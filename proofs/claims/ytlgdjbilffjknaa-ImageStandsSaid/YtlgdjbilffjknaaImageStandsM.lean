/- What stands and what is pending, by a law's own two rows. -/
import Derived.Test.YtlgdjbilffjknaaImagePure
namespace Go.Proofs.Ytlgdjbilffjknaa.im
set_option linter.unusedSimpArgs false
set_option linter.unusedVariables false
open Go.RowKit Go.Proofs.Ytlgdjbilffjknaa.mem Go.Proofs.Ytlgdjbilffjknaa.base Go.Proofs.Ytlgdjbilffjknaa.pd Go.Proofs.Ytlgdjbilffjknaa.owns

/-- The first k places are as they become, the others as they were. -/
def mix (B0 Bt : List Int) (k : Nat) : List Int := Bt.take k ++ B0.drop k
section
variable {B0 Bt : List Int} {k n : Nat}
theorem mix_zero : mix B0 Bt 0 = B0 := by simp [mix]
theorem mix_all (h1 : B0.length = n) (h2 : Bt.length = n) : mix B0 Bt n = Bt := by unfold mix; rw [List.take_of_length_le (by omega), List.drop_of_length_le (by omega), List.append_nil]
theorem mix_len (h1 : B0.length = n) (h2 : Bt.length = n) (hk : k ≤ n) : (mix B0 Bt k).length = n := by simp [mix]; omega
theorem mix_at (h1 : B0.length = n) (h2 : Bt.length = n) (hk : k < n) : (mix B0 Bt k)[k]? = some (B0.getD k 0) := by
  unfold mix
  rw [List.getElem?_append_right (by simp; omega), List.length_take, Nat.min_eq_left (by omega), Nat.sub_self, List.getElem?_drop, Nat.add_zero]
  exact getD_of (by omega)
theorem mix_set (h1 : B0.length = n) (h2 : Bt.length = n) (hk : k < n) : (mix B0 Bt k).set k (Bt.getD k 0) = mix B0 Bt (k + 1) := by
  unfold mix
  rw [List.set_append_right _ _ (by simp; omega), List.length_take, Nat.min_eq_left (by omega), Nat.sub_self, List.take_add_one, getD_of (by omega), List.append_assoc, List.drop_eq_getElem_cons (by omega)]
  rfl
theorem mix_same (h1 : B0.length = n) (h2 : Bt.length = n) (hk : k < n) (he : Bt.getD k 0 = B0.getD k 0) : mix B0 Bt (k + 1) = mix B0 Bt k := by
  rw [← mix_set h1 h2 hk, he]
  have hp := mix_at h1 h2 hk
  have hi := (List.getElem?_eq_some_iff.1 hp).1
  apply List.ext_getElem?
  intro j
  rw [List.getElem?_set]
  by_cases hj : k = j
  · subst hj
    rw [if_pos rfl, if_pos hi, hp]
  · rw [if_neg hj]
end
theorem made_ints (n : Nat) (hn : n ≤ 200000) (w : World) :
    (Instr.makeSlice 29 (.int .i64 (n : Int)) (.int .i64 (n : Int))).run Try.prog w = .ok (.slice (some ⟨w.heap.size, 0, none⟩) n n) (w.alloc (.cells ((List.replicate n (0 : Int)).map I).toArray 3)) := by
  rw [show (List.replicate n (0 : Int)).map I = List.replicate n (.int .i64 0) by simp [I], ← toList_madeCells_one]
  exact run_make_row' (P := Try.prog) 29 3 (.int .i64 0) 8 (by kernel_rfl) (by kernel_rfl) rfl .i64 .i64 n (by omega) (by omega) w
/-- How many of the first k are pending. -/
def cnt (os : List Int) (k : Nat) : Nat := ((List.range k).filter fun j => decide (0 ≤ os.getD j 0)).length
theorem cnt_yes {os : List Int} {k : Nat} (h : 0 ≤ os.getD k 0) : cnt os (k + 1) = cnt os k + 1 := by unfold cnt; rw [List.range_succ, List.filter_append, List.filter_cons_of_pos (by simpa using h)]; simp
theorem cnt_no {os : List Int} {k : Nat} (h : ¬ 0 ≤ os.getD k 0) : cnt os (k + 1) = cnt os k := by unfold cnt; rw [List.range_succ, List.filter_append, List.filter_cons_of_neg (by simpa using h)]; simp
theorem cnt_le (os : List Int) (k : Nat) : cnt os k ≤ k := by
  unfold cnt
  exact Nat.le_trans (List.length_filter_le _ _) (by simp)
theorem cnt_pend {os : List Int} (h : ∀ j, j < os.length → -1 ≤ os.getD j 0) : cnt os os.length = (pendL os).length := by
  unfold cnt pendL unt placed
  rw [List.filter_map, List.length_map]
  congr 1
  apply List.filter_congr
  intro j hj
  have := h j (List.mem_range.1 hj)
  simp only [Function.comp]
  rw [Bool.eq_iff_iff]
  simp
  rw [List.getD_eq_getElem?_getD] at this
  omega
/-- What a deed makes of the two rows. -/
structure StK (kd : Int) (n : Nat) (B0 O0 Bt Ot : List Int) : Prop where
  l1 : B0.length = n
  l2 : O0.length = n
  l3 : Bt.length = n
  l4 : Ot.length = n
  low : ∀ k, k < n → -1 ≤ O0.getD k 0
  three : kd = 3 → ∀ k, k < n → Ot.getD k 0 = -1 ∧ Bt.getD k 0 = if O0.getD k 0 = -1 then B0.getD k 0 else O0.getD k 0
  four : kd = 4 → ∀ k, k < n → Ot.getD k 0 = -1 ∧ Bt.getD k 0 = B0.getD k 0
  else_ : kd ≠ 3 → kd ≠ 4 → ∀ k, k < n → Ot.getD k 0 = O0.getD k 0 ∧ Bt.getD k 0 = B0.getD k 0
section
variable {n : Nat} {i : Int} {M : Im} {kd : Int}
theorem MvI.low (h : MvI n i M) : ∀ k, k < n → -1 ≤ M.o.l.getD k 0 := fun k hk => (h.2 k hk).2.1.1
theorem StK.same (h : MvI n i M) (h3 : kd ≠ 3) (h4 : kd ≠ 4) : StK kd n M.b.l M.o.l M.b.l M.o.l :=
  ⟨h.1.1, h.1.2, h.1.1, h.1.2, h.low, fun e => absurd e h3, fun e => absurd e h4, fun _ _ _ _ => ⟨rfl, rfl⟩⟩
theorem StK.commit (h : MvI n i M) : StK 3 n M.b.l M.o.l M.commit.b.l M.commit.o.l :=
  ⟨h.1.1, h.1.2, (commit_of h.1).1, (commit_of h.1).2, h.low, fun _ k hk => ⟨commit_o h.1 k hk, commit_b h.1 k hk⟩, fun e => by omega, fun e => absurd rfl e⟩
theorem StK.forget (h : MvI n i M) : StK 4 n M.b.l M.o.l M.forget.b.l M.forget.o.l :=
  ⟨h.1.1, h.1.2, h.1.1, (forget_of h.1).2, h.low, fun e => by omega, fun _ k hk => ⟨forget_o h.1 k hk, rfl⟩, fun _ e => absurd rfl e⟩
theorem likes_step (t : Tb) (b c : Nat) (ref : Int) : (t.lay (likes b ref (c + 1))).1.l = (t.lay (likes b ref c)).1.l.set (b + c) ref := by
  rw [likes_succ, Tb.lay_snoc]
  rfl
end
/-- The law's two rows. -/
def Rows2 (W : World) (gb go_ : Nat) (B O : List Int) : Prop := Blk W gb 3 (B.map I).toArray ∧ Blk W go_ 3 (O.map I).toArray
theorem Rows2.setO {W : World} {gb go_ : Nat} {B O : List Int} (h : Rows2 W gb go_ B O) (hne : gb ≠ go_) (k : Nat) (v : Int) : Rows2 (W.setCell ⟨go_, k, none⟩ (.int .i64 v)) gb go_ B (O.set k v) := by
  refine ⟨h.1.far_ hne k _, ?_⟩
  have := h.2.set_ k (.int .i64 v)
  rw [List.setIfInBounds_toArray] at this
  rw [List.map_set]
  exact this
theorem Rows2.setB {W : World} {gb go_ : Nat} {B O : List Int} (h : Rows2 W gb go_ B O) (hne : gb ≠ go_) (k : Nat) (v : Int) : Rows2 (W.setCell ⟨gb, k, none⟩ (.int .i64 v)) gb go_ (B.set k v) O := by
  refine ⟨?_, h.2.far_ (Ne.symm hne) k _⟩
  have := h.1.set_ k (.int .i64 v)
  rw [List.setIfInBounds_toArray] at this
  rw [List.map_set]
  exact this
theorem Rows2.cellB {W : World} {gb go_ : Nat} {B O : List Int} (h : Rows2 W gb go_ B O) {k : Nat} {x : Int} (hx : B[k]? = some x) : W.cell? ⟨gb, k, none⟩ = some (.int .i64 x) := by rw [h.1.cell]; simp [hx, I]
theorem Rows2.cellO {W : World} {gb go_ : Nat} {B O : List Int} (h : Rows2 W gb go_ B O) {k : Nat} {x : Int} (hx : O[k]? = some x) : W.cell? ⟨go_, k, none⟩ = some (.int .i64 x) := by rw [h.2.cell]; simp [hx, I]
end Go.Proofs.Ytlgdjbilffjknaa.im
