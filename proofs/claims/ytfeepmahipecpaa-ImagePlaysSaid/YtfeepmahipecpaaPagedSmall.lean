/- Package paged: sizes and quotients; blocks cleared. -/
import Derived.Test.YtfeepmahipecpaaPagedMem
import Derived.Lib.SliceRun
namespace Go.Proofs.Ytfeepmahipecpaa.pd
set_option linter.unusedSimpArgs false
open Go.RowKit Go.Proofs.Ytfeepmahipecpaa.mem Go.Proofs.Ytfeepmahipecpaa.base

theorem isSize_yes (n : Int) (w : World) (h1 : 1 ≤ n) (h2 : n ≤ 65536) :
    Calls Try.prog 61 #[.int .i64 n] w fun e w' => e = .returned (.bool true) ∧ w = w' := by
  go_enter Try.func61, Try.ntmps61
  go_wp2
  go_ret
  exact ⟨by simp [h2], rfl⟩

theorem isSize_no (n : Int) (w : World) (h : ¬ (1 ≤ n ∧ n ≤ 65536)) :
    Calls Try.prog 61 #[.int .i64 n] w fun e w' => e = .returned (.bool false) ∧ w = w' := by
  by_cases h1 : 1 ≤ n
  · have h2 : decide (n ≤ 65536) = false := decide_eq_false (fun h2 => h ⟨h1, h2⟩)
    clear h
    go_enter Try.func61, Try.ntmps61
    go_wp2
    go_ret
    exact ⟨rfl, rfl⟩
  · clear h
    go_enter Try.func61, Try.ntmps61
    go_wp2
    go_ret
    exact ⟨rfl, rfl⟩

theorem up_div (n per : Nat) (hn1 : 1 ≤ n) : ((n : Int) + per - 1).tdiv (per : Int) = (((n + per - 1) / per : Nat) : Int) := by
  rw [Int.tdiv_eq_ediv_of_nonneg (by omega), show ((n : Int) + per - 1) = ((n + per - 1 : Nat) : Int) by omega, ← Int.natCast_ediv]

theorem upwards_any (n per : Nat) (w : World) (hn1 : 1 ≤ n) (hn2 : n ≤ 65536) (hp1 : 1 ≤ per) (hp2 : per ≤ 65536) :
    Calls Try.prog 63 #[.int .i64 n, .int .i64 per] w fun e w' => e = .returned (.int .i64 ((n + per - 1) / per : Nat)) ∧ w = w' := by
  have qd := up_div n per hn1
  have qm : (n + per - 1) / per ≤ n + per - 1 := Nat.div_le_self _ _
  have qn : ¬ (per : Int) = 0 := by omega
  obtain ⟨P', hP'⟩ : ∃ P' : Int, (per : Int) = P' := ⟨_, rfl⟩
  have hP1 : 1 ≤ P' := by omega
  have hP2 : P' ≤ 65536 := by omega
  rw [hP'] at qd qn ⊢
  generalize (n + per - 1) / per = q at *
  have qv : IntKind.i64.wrap (q : Int) = q := by rw [IntKind.wrap_i64]; omega
  clear hP' hp1 hp2
  go_enter Try.func63, Try.ntmps63
  go_wp2
  go_ret
  exact ⟨rfl, rfl⟩

theorem up_any (n per : Nat) (w : World) (hn1 : 1 ≤ n) (hn2 : n ≤ 65536) (hp1 : 1 ≤ per) (hp2 : per ≤ 65536) :
    Calls Try.prog 35 #[.int .i64 n, .int .i64 per] w fun e w' => e = .returned (.int .i64 ((n + per - 1) / per : Nat)) ∧ w = w' := by
  have qd := up_div n per hn1
  have qm : (n + per - 1) / per ≤ n + per - 1 := Nat.div_le_self _ _
  have qn : ¬ (per : Int) = 0 := by omega
  obtain ⟨P', hP'⟩ : ∃ P' : Int, (per : Int) = P' := ⟨_, rfl⟩
  have hP1 : 1 ≤ P' := by omega
  have hP2 : P' ≤ 65536 := by omega
  rw [hP'] at qd qn ⊢
  generalize (n + per - 1) / per = q at *
  have qv : IntKind.i64.wrap (q : Int) = q := by rw [IntKind.wrap_i64]; omega
  clear hP' hp1 hp2
  go_enter Try.func35, Try.ntmps35
  go_wp2
  go_ret
  exact ⟨rfl, rfl⟩

/-- A run of cells is laid. -/
theorem kept_setCells {S : List Nat} {a : World} {g : Nat} (hg : g ∈ S) : ∀ (xs : List Value) (o : Nat) (w : World), Kept S a w → Kept S a (w.setCells g o xs)
  | [], _, _, h => h
  | x :: xs, o, _, h => kept_setCells hg xs (o + 1) _ (h.set_ (.inl hg) o x)
theorem blk_setCells {g : Nat} {t : TypeId} : ∀ (xs : List Value) (o : Nat) (w : World) (cs : List Value), Blk w g t cs.toArray → o + xs.length ≤ cs.length → Blk (w.setCells g o xs) g t (lay cs o xs).toArray
  | [], o, w, cs, h, _ => by simpa [World.setCells, lay] using h
  | x :: xs, o, w, cs, h, hl => by
    have h1 := h.set_ o x
    rw [List.setIfInBounds_toArray] at h1
    simp only [List.length_cons] at hl
    have h2 := blk_setCells xs (o + 1) _ _ h1 (by rw [List.length_set]; omega)
    have e : lay (cs.set o x) (o + 1) xs = lay cs o (x :: xs) := by
      unfold lay
      have h3 : (cs.set o x).take (o + 1) = cs.take o ++ [x] := by
        rw [List.take_add_one, List.getElem?_set_self (by omega), List.take_set_of_le (Nat.le_refl _)]
        rfl
      rw [h3, List.drop_set_of_lt (by omega)]
      simp [Nat.add_assoc, Nat.add_comm 1]
    rw [e] at h2
    exact h2

theorem clear_marks (w : World) (D : Nat) (ds : List Bool) (hm : 0 < ds.length) (h : Blk w D 4 (bv ds).toArray) :
    ∃ w', (Builtin.clear_ #[46] 0 #[.slice (some ⟨D, 0, none⟩) ds.length ds.length]).run Try.prog w = .ok (.tuple #[]) w' ∧ Blk w' D 4 (bv (List.replicate ds.length false)).toArray ∧ Kept [D] w w' := by
  refine ⟨_, Lib.run_clear_slice (P := Try.prog) w 46 4 0 (.bool false) Try.underlying46 Try.zeroValue4 rfl rfl D 0 ds.length ds.length hm (fun j hj => ?_) (fun j _ => ?_), ?_, ?_⟩
  · rw [Nat.zero_add, h.cell]
    simp [bv, hj]
  · rw [Nat.zero_add]
    exact h.frozen j
  · have h1 := blk_setCells (List.replicate ds.length (.bool false)) 0 w (bv ds) h (by simp [bv])
    rw [show lay (bv ds) 0 (List.replicate ds.length (.bool false)) = bv (List.replicate ds.length false) by simp [lay, bv]] at h1
    exact h1
  · exact kept_setCells (by simp) _ _ _ (Kept.refl _ _)

theorem made_marks (n : Nat) (hn : n ≤ 200000) (w : World) :
    (Instr.makeSlice 46 (.int .i64 (n : Int)) (.int .i64 (n : Int))).run Try.prog w = .ok (.slice (some ⟨w.heap.size, 0, none⟩) n n) (w.alloc (.cells (bv (List.replicate n false)).toArray 4)) := by
  rw [show bv (List.replicate n false) = List.replicate n (.bool false) by simp [bv], ← toList_madeCells_one]
  exact run_make_row' (P := Try.prog) 46 4 (.bool false) 1 (by kernel_rfl) (by kernel_rfl) rfl .i64 .i64 n (by omega) (by omega) w
end Go.Proofs.Ytfeepmahipecpaa.pd
