import Derived.Test.YtolbalafhfpjbaaGreatPUsageIter
namespace Go.Proofs.YtolbalafhfpjbaaGreat.us
set_option linter.unusedSimpArgs false
open Go.RowKit mem base geom
def Rw.free (x : Rw) : Rw := if x.dead = true then ⟨0, x.t, x.n⟩ else x
theorem made_use (m : Nat) : madeCells #[.int .i64 0, .int .i64 0] (m * 2) = (usesOf (List.replicate m Rw.zero)).toArray := by
 have h0 : ∀ n : Nat, n < 2 → ([.int .i64 0, .int .i64 0] : List Value)[n]?.getD default = .int .i64 0 := by
  intro n hn
  match n, hn with
  | 0, _ => rfl
  | 1, _ => rfl
 have hv : usesOf (List.replicate m Rw.zero) = List.replicate (m * 2) (.int .i64 0) := by
  induction m with
  | zero => rfl
  | succ m ih => rw [List.replicate_succ, show (m + 1) * 2 = m * 2 + 1 + 1 by omega, List.replicate_succ, List.replicate_succ, ← ih]; rfl
 rw [hv]
 apply Array.ext
 ·simp [madeCells]
 ·intro i h1 h2
  simp [madeCells, h0 (i % 2) (Nat.mod_lt _ (by omega))]
theorem made_seg (m : Nat) : madeCells #[.int .i64 0, .int .i64 0, .int .i64 0] (m * 3) = (segsOf (List.replicate m Rw.zero)).toArray := by
 have h0 : ∀ n : Nat, n < 3 → ([.int .i64 0, .int .i64 0, .int .i64 0] : List Value)[n]?.getD default = .int .i64 0 := by
  intro n hn
  match n, hn with
  | 0, _ => rfl
  | 1, _ => rfl
  | 2, _ => rfl
 have hv : segsOf (List.replicate m Rw.zero) = List.replicate (m * 3) (.int .i64 0) := by
  induction m with
  | zero => rfl
  | succ m ih => rw [List.replicate_succ, show (m + 1) * 3 = m * 3 + 1 + 1 + 1 by omega, List.replicate_succ, List.replicate_succ, List.replicate_succ, ← ih]; rfl
 rw [hv]
 apply Array.ext
 ·simp [madeCells]
 ·intro i h1 h2
  simp [madeCells, h0 (i % 3) (Nat.mod_lt _ (by omega))]

theorem use_info : (Tryz.prog.info? 199).map (fun i => (i.zero, i.size, i.bytes)) = some (some (.agg #[.int .i64 0, .int .i64 0]), 2, 16) := by kernel_rfl
theorem seg_info : (Tryz.prog.info? 201).map (fun i => (i.zero, i.size, i.bytes)) = some (some (.agg #[.int .i64 0, .int .i64 0, .int .i64 0]), 3, 24) := by kernel_rfl
theorem made_uses (m : Nat) (hm : m ≤ 1000) (w : World) :
  (Instr.makeSlice 193 (.int .i64 (m : Int)) (.int .i64 (m : Int))).run Tryz.prog w = .ok (.slice (some ⟨w.heap.size, 0, none⟩) m m) (w.alloc (.cells (usesOf (List.replicate m Rw.zero)).toArray 199)) := by
 obtain ⟨i, hi, hzz⟩ := Option.map_eq_some_iff.1 use_info
 simp only [Prod.mk.injEq] at hzz
 obtain ⟨hz, hs, hb⟩ := hzz
 have hr := run_make (P := Tryz.prog) w 193 199 i _ Tryz.underlying193 hi hz .i64 .i64 m m (by omega) (Int.le_refl _) (by rw [hb]; omega) (by omega)
 rw [hs, Int.toNat_natCast] at hr
 rw [← made_use]
 exact hr
theorem made_segs (m : Nat) (hm : m ≤ 1000) (w : World) :
  (Instr.makeSlice 245 (.int .i64 (m : Int)) (.int .i64 (m : Int))).run Tryz.prog w = .ok (.slice (some ⟨w.heap.size, 0, none⟩) m m) (w.alloc (.cells (segsOf (List.replicate m Rw.zero)).toArray 201)) := by
 obtain ⟨i, hi, hzz⟩ := Option.map_eq_some_iff.1 seg_info
 simp only [Prod.mk.injEq] at hzz
 obtain ⟨hz, hs, hb⟩ := hzz
 have hr := run_make (P := Tryz.prog) w 245 201 i _ Tryz.underlying245 hi hz .i64 .i64 m m (by omega) (Int.le_refl _) (by rw [hb]; omega) (by omega)
 rw [hs, Int.toNat_natCast] at hr
 rw [← made_seg]
 exact hr

theorem add_next (a : Addr) (n : Nat) : a.add (n + 1) = ⟨(a.add n).block, (a.add n).off + 1, none⟩ := by
 rw [add_pos a (n + 1) (by omega)]
 by_cases hn : n = 0
 ·subst hn
  simp [Addr.add]
 ·rw [add_pos a n (by omega)]
  simp [Nat.add_assoc]
theorem uses_at {w : World} {S : List Nat} {A : Option Addr} {us : List Rw} (h : Vals w S A (usesOf us)) {k : Nat} {x : Rw} (hk : us[k]? = some x) :
  ∃ ad, A = some ad ∧ ad.block ∉ S ∧ w.cell? (ad.add (k * 2)) = some (.int .i64 x.s) ∧ w.cell? ⟨(ad.add (k * 2)).block, (ad.add (k * 2)).off + 1, none⟩ = some (.int .i64 x.t) := by
 obtain ⟨ad, rfl, hn, c0⟩ := h (k * 2 + 0) _ (by unfold usesOf; rw [flat_get Rw.use 2 Rw.use_len us k 0 (by omega) x hk]; rfl)
 obtain ⟨a1, h1, _, c1⟩ := h (k * 2 + 1) _ (by unfold usesOf; rw [flat_get Rw.use 2 Rw.use_len us k 1 (by omega) x hk]; rfl)
 cases h1
 exact ⟨ad, rfl, hn, c0, by rw [← add_next]; exact c1⟩
theorem take_snoc {us : List Rw} {k : Nat} {x : Rw} (h : us[k]? = some x) : us.take (k + 1) = us.take k ++ [x] := by rw [List.take_add_one, h]; rfl
theorem take_len {us : List Rw} {k m : Nat} (h : us.length = m) (hk : k ≤ m) : (us.take k).length = k := by rw [List.length_take, h]; omega
theorem part_at {us : List Rw} {k m : Nat} (h : us.length = m) (hk : k < m) : (us.take k ++ List.replicate (m - k) Rw.zero)[k]? = some Rw.zero := by
 have hl := take_len h (Nat.le_of_lt hk)
 rw [List.getElem?_append_right (by omega), hl, Nat.sub_self, List.getElem?_replicate, if_pos (by omega)]
theorem part_set {us : List Rw} {k m : Nat} (h : us.length = m) (hk : k < m) {x : Rw} (hx : us[k]? = some x) : (us.take k ++ List.replicate (m - k) Rw.zero).set k x = us.take (k + 1) ++ List.replicate (m - (k + 1)) Rw.zero := by
 have hl := take_len h (Nat.le_of_lt hk)
 rw [take_snoc hx, List.set_append, hl, if_neg (by omega), Nat.sub_self, show m - k = (m - (k + 1)) + 1 by omega, List.replicate_succ, List.set_cons_zero, List.append_assoc]
 rfl
def allMay (us : List Rw) : Prop := ∀ x ∈ us, mayUse x.s x.t = true
instance (us : List Rw) : Decidable (allMay us) := by unfold allMay; infer_instance
def plain (us : List Rw) : Prop := ∀ x ∈ us, x.n = 0
theorem allMay_next {us : List Rw} {k : Nat} {x : Rw} (h : allMay (us.take k)) (hx : us[k]? = some x) (hm : mayUse x.s x.t = true) : allMay (us.take (k + 1)) := by
 rw [take_snoc hx]
 intro y hy
 rcases List.mem_append.1 hy with hy | hy
 ·exact h y hy
 ·simp only [List.mem_singleton] at hy
  rw [hy]
  exact hm
theorem allMay_not {us : List Rw} {k : Nat} {x : Rw} (hx : us[k]? = some x) (hm : mayUse x.s x.t = false) : ¬ allMay us := fun h => by
 have := h x (List.mem_of_getElem? hx)
 rw [hm] at this
 cases this
theorem rep_good (m : Nat) : ∀ x ∈ List.replicate m Rw.zero, x.good := fun x hx => by
 rw [List.eq_of_mem_replicate hx]
 simp [Rw.good, Rw.zero]
end Go.Proofs.YtolbalafhfpjbaaGreat.us
