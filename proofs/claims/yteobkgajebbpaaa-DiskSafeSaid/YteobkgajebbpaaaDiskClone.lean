/- Clones of bytes, of sectors, of Bools; new rows of them. -/
import Derived.Test.YteobkgajebbpaaaDiskSmall
namespace Go.Proofs.Yteobkgajebbpaaa.disk
open Go.RowKit Go.Proofs.Yteobkgajebbpaaa.mem Go.Proofs.Yteobkgajebbpaaa.base

theorem info8 : (Try.prog.info? 5).map (fun i => (i.zero, i.size, i.bytes)) = some (some (.int .u8 0), 1, 1) := by kernel_rfl
theorem info_bool : (Try.prog.info? 4).map (fun i => (i.zero, i.size, i.bytes)) = some (some (.bool false), 1, 1) := by kernel_rfl
def secZero : Value := .agg (madeCells #[.int .u8 0] 64)
theorem info_sec : (Try.prog.info? 70).map (fun i => (i.zero, i.size, i.bytes)) = some (some secZero, 64, 64) := by kernel_rfl

theorem own_lit (w : World) (e : TypeId) (size : Nat) : (w.alloc (.cells #[] e)).ownsRow w.heap.size e size (.slice (some ⟨w.heap.size, 0, none⟩) 0 0) 0 [] :=
  ⟨by simp, .inr ⟨_, 0, #[], rfl, Nat.le_refl _, heap_alloc_new w _, Nat.le_refl _, Nat.zero_le _, by simp, by simp⟩⟩

theorem row_of_own {w : World} {base : Nat} {e : TypeId} {size n : Nat} {v : Value} {xs : List Value} (h : w.ownsRow base e size v n xs) (hv : v.ownBlock ≠ none) :
    ∃ g cap, v = .slice (some ⟨g, 0, none⟩) n cap ∧ base ≤ g ∧ n ≤ cap ∧ Row w g e xs := by
  rcases h.2 with ⟨rfl, _⟩ | ⟨g, cap, cur, rfl, hb, hh, hn, hm, hs, ht⟩
  · exact absurd rfl hv
  · refine ⟨g, cap, rfl, hb, hn, cur, hh, ?_, fun i v hv => ?_⟩
    · have : n * size ≤ cap * size := Nat.mul_le_mul_right _ hn
      rw [h.1]; omega
    · have hi : i < n * size := by have := (List.getElem?_eq_some_iff.1 hv).1; rw [h.1] at this; exact this
      rw [← ht, List.getElem?_take_of_lt hi] at hv
      simpa using hv

/-- Bytes in memory that was not there. -/
def Fresh (w w' : World) (A : Option Addr) (n c : Nat) (bs : List UInt8) : Prop := bs.length = n ∧ n ≤ c ∧ (A = none → c = 0) ∧ ∀ S : List Nat, (∀ x ∈ S, x < w.heap.size) → Vals w' S A (bs.map B)
theorem Fresh.none (w w' : World) : Fresh w w' none 0 0 [] := ⟨rfl, Nat.le_refl _, fun _ => rfl, fun _ _ => Vals.nil _ _ _⟩
theorem Fresh.kept {w w' w2 : World} {A : Option Addr} {n c : Nat} {bs : List UInt8} (h : Fresh w w' A n c bs) {S : List Nat} (k : Kept S w' w2) (hs : ∀ x ∈ S, x < w.heap.size) : Fresh w w2 A n c bs :=
  ⟨h.1, h.2.1, h.2.2.1, fun S' hS' => ((h.2.2.2 (S ++ S') (fun x hx => by
    rcases List.mem_append.1 hx with hx | hx
    · exact hs x hx
    · exact hS' x hx)).kept k (fun i hi => by simp [hi])).mono (fun i hi => by simp [hi])⟩
theorem Fresh.mono {w0 w w' : World} {A : Option Addr} {n c : Nat} {bs : List UInt8} (h : Fresh w w' A n c bs) (hs : w0.heap.size ≤ w.heap.size) : Fresh w0 w' A n c bs :=
  ⟨h.1, h.2.1, h.2.2.1, fun S hS => h.2.2.2 S (fun x hx => Nat.lt_of_lt_of_le (hS x hx) hs)⟩
theorem Fresh.vals {w w' : World} {A : Option Addr} {n c : Nat} {bs : List UInt8} (h : Fresh w w' A n c bs) : Vals w' [] A (bs.map B) := h.2.2.2 [] (by simp)
theorem Fresh.drewN {w w' : World} {A : Option Addr} {n c : Nat} {bs : List UInt8} (h : Fresh w w' A n c bs) (k : Nat) : Fresh w (w'.drewN k) A n c bs := h
theorem Row.fresh {w w' : World} {g n c : Nat} {bs : List UInt8} {t : TypeId} (h : Row w' g t (bs.map B)) (hg : w.heap.size ≤ g) (hl : bs.length = n) (hc : n ≤ c) : Fresh w w' (some ⟨g, 0, none⟩) n c bs :=
  ⟨hl, hc, (fun h0 => by cases h0), fun S hS => h.vals0 (fun hm => by have := hS _ hm; omega)⟩

set_option maxHeartbeats 400000 in
theorem clone_some (ad : Addr) (n c : Nat) (bs : List UInt8) (w : World) (hv : Vals w [] (some ad) (bs.map B)) (hl : bs.length = n) (hm : n ≤ 1000000) :
    Calls Try.prog 38 #[.slice (some ad) n c] w fun e w' => ∃ g cap, e = .returned (.slice (some ⟨g, 0, none⟩) n cap) ∧ Fresh w w' (some ⟨g, 0, none⟩) n cap bs ∧ Kept [] w w' := by
  have hnil := Lib.run_eql_slice_nil (P := Try.prog)
  have HV : Hid (Vals (w.alloc (.cells #[] 5)) [] (some ad) (bs.map B)) := hide (hv.kept (S' := []) ((Kept.refl _ w).alloc _) (fun _ h => h))
  have HL := hide hl
  clear hv hl
  go_enter Try.func38, Try.ntmps38
  go_wp2_with (at_builtin; refine wpList_append_vals rfl (.tmp 5) (.tmp 6) 34 rfl w.heap.size 5 (.int .u8 0) 1 1 Try.underlying34 info8 rfl (by omega) (.slice (some ⟨w.heap.size, 0, none⟩) 0 0) 0 [] rfl (own_lit w _ _) [] (some ad) n c (bs.map B) rfl (by rw [List.length_map, HL.out]; simp) HV.out (oneCell_B bs) (by simp only [maxLen]; omega) (by omega) (by simp) ?_; intro v1 w1 hown1 hk1 hat1)
  go_ret
  obtain ⟨g, cap, rfl, hb, hc, hr⟩ := row_of_own hown1 (by rcases hat1 with h | h <;> rw [h] <;> simp [Value.ownBlock])
  refine ⟨g, cap, by simp, ?_, ?_⟩
  · refine Row.fresh (t := 5) (by simpa using hr) hb HL.out (by simpa using hc)
  · refine ((Kept.refl [] w).alloc (.cells #[] 5)).trans hk1 (fun i hi => .inr ?_)
    simp [Value.ownBlock] at hi
    omega

set_option maxHeartbeats 400000 in
theorem clone_secs (ad : Addr) (n c : Nat) (bs : List UInt8) (w : World) (hv : Vals w [] (some ad) (bs.map B)) (hl : bs.length = 64 * n) (hm : n ≤ 4096) :
    Calls Try.prog 40 #[.slice (some ad) n c] w fun e w' => ∃ g cap, e = .returned (.slice (some ⟨g, 0, none⟩) n cap) ∧ w.heap.size ≤ g ∧ n ≤ cap ∧ Row w' g 70 (bs.map B) ∧ Kept [] w w' := by
  have hnil := Lib.run_eql_slice_nil (P := Try.prog)
  have HV : Hid (Vals (w.alloc (.cells #[] 70)) [] (some ad) (bs.map B)) := hide (hv.kept (S' := []) ((Kept.refl _ w).alloc _) (fun _ h => h))
  have HL := hide hl
  clear hv hl
  go_enter Try.func40, Try.ntmps40
  go_wp2_with (at_builtin; refine wpList_append_vals rfl (.tmp 5) (.tmp 6) 67 rfl w.heap.size 70 secZero 64 64 Try.underlying67 info_sec (by kernel_rfl) (by omega) (.slice (some ⟨w.heap.size, 0, none⟩) 0 0) 0 [] rfl (own_lit w _ _) [] (some ad) n c (bs.map B) rfl (by rw [List.length_map, HL.out]; omega) HV.out (oneCell_B bs) (by simp only [maxLen]; omega) (by omega) (by simp) ?_; intro v1 w1 hown1 hk1 hat1)
  go_ret
  obtain ⟨g, cap, rfl, hb, hc, hr⟩ := row_of_own hown1 (by rcases hat1 with h | h <;> rw [h] <;> simp [Value.ownBlock])
  refine ⟨g, cap, by simp, hb, by simpa using hc, by simpa using hr, ?_⟩
  refine ((Kept.refl [] w).alloc (.cells #[] 70)).trans hk1 (fun i hi => .inr ?_)
  simp [Value.ownBlock] at hi
  omega

theorem oneCell_bool (l : List Bool) : ∀ v ∈ l.map Value.bool, v.oneCell' = true := by
  intro v hv
  obtain ⟨x, _, rfl⟩ := List.mem_map.1 hv
  rfl
set_option maxHeartbeats 400000 in
theorem clone_bools (ad : Addr) (n c : Nat) (fs : List Bool) (w : World) (hv : Vals w [] (some ad) (fs.map Value.bool)) (hl : fs.length = n) (hm : n ≤ 4096) :
    Calls Try.prog 42 #[.slice (some ad) n c] w fun e w' => ∃ g cap, e = .returned (.slice (some ⟨g, 0, none⟩) n cap) ∧ w.heap.size ≤ g ∧ n ≤ cap ∧ Row w' g 4 (fs.map Value.bool) ∧ Kept [] w w' := by
  have hnil := Lib.run_eql_slice_nil (P := Try.prog)
  have HV : Hid (Vals (w.alloc (.cells #[] 4)) [] (some ad) (fs.map Value.bool)) := hide (hv.kept (S' := []) ((Kept.refl _ w).alloc _) (fun _ h => h))
  have HL := hide hl
  clear hv hl
  go_enter Try.func42, Try.ntmps42
  go_wp2_with (at_builtin; refine wpList_append_vals rfl (.tmp 5) (.tmp 6) 53 rfl w.heap.size 4 (.bool false) 1 1 Try.underlying53 info_bool rfl (by omega) (.slice (some ⟨w.heap.size, 0, none⟩) 0 0) 0 [] rfl (own_lit w _ _) [] (some ad) n c (fs.map Value.bool) rfl (by rw [List.length_map, HL.out]; simp) HV.out (oneCell_bool fs) (by simp only [maxLen]; omega) (by omega) (by simp) ?_; intro v1 w1 hown1 hk1 hat1)
  go_ret
  obtain ⟨g, cap, rfl, hb, hc, hr⟩ := row_of_own hown1 (by rcases hat1 with h | h <;> rw [h] <;> simp [Value.ownBlock])
  refine ⟨g, cap, by simp, hb, by simpa using hc, by simpa using hr, ?_⟩
  refine ((Kept.refl [] w).alloc (.cells #[] 4)).trans hk1 (fun i hi => .inr ?_)
  simp [Value.ownBlock] at hi
  omega

/-- A new row of sectors. -/
theorem make_secs (n : Nat) (hn : n ≤ 4096) (w : World) :
    (Instr.makeSlice 67 (.int .i64 (n : Int)) (.int .i64 (n : Int))).run Try.prog w = .ok (.slice (some ⟨w.heap.size, 0, none⟩) n n) (w.alloc (.cells (madeCells secZero.cells (n * 64)) 70)) := by
  obtain ⟨i, hi, hzz⟩ := Option.map_eq_some_iff.1 info_sec
  simp only [Prod.mk.injEq] at hzz
  obtain ⟨hz, hs, hb⟩ := hzz
  have h := run_make (P := Try.prog) w 67 70 i secZero Try.underlying67 hi hz .i64 .i64 n n (by omega) (Int.le_refl _) (by rw [hb]; omega) (by omega)
  simp only [Int.toNat_natCast, hs] at h
  exact h
theorem sec_cells_size : secZero.cells.size = 64 := by kernel_rfl
theorem sec_cells_at (j : Nat) (h : j < 64) : secZero.cells[j]! = B 0 := by
  have h2 : secZero.cells[j]? = some (B 0) := made_B 64 j h
  rw [getElem!_def, h2]
theorem row_secs (n : Nat) (w : World) : Row (w.alloc (.cells (madeCells secZero.cells (n * 64)) 70)) w.heap.size 70 ((List.replicate (64 * n) (0 : UInt8)).map B) := by
  refine ⟨_, Blk.new _ _ _, by rw [size_madeCells]; simp; omega, fun i v hv => ?_⟩
  rw [List.map_replicate, List.getElem?_replicate] at hv
  split at hv
  · rename_i hi
    unfold madeCells
    rw [Array.getElem?_map, Array.getElem?_range, if_pos (by omega), Option.map_some, sec_cells_size, sec_cells_at _ (Nat.mod_lt _ (by omega))]
    exact hv
  · cases hv
theorem make_bools (n : Nat) (hn : n ≤ 4096) (w : World) :
    (Instr.makeSlice 53 (.int .i64 (n : Int)) (.int .i64 (n : Int))).run Try.prog w = .ok (.slice (some ⟨w.heap.size, 0, none⟩) n n) (w.alloc (.cells (madeCells #[.bool false] n) 4)) :=
  run_make_row' 53 4 (.bool false) 1 Try.underlying53 info_bool rfl .i64 .i64 n (by omega) (by omega) w
theorem row_bools (n : Nat) (w : World) : Row (w.alloc (.cells (madeCells #[.bool false] n) 4)) w.heap.size 4 ((List.replicate n false).map Value.bool) := by
  refine ⟨_, Blk.new _ _ _, by rw [size_madeCells]; simp, fun i v hv => ?_⟩
  rw [List.map_replicate, List.getElem?_replicate] at hv
  split at hv
  · rename_i hi
    simp [madeCells, hi, Nat.mod_one]
    simpa using hv
  · cases hv
end Go.Proofs.Yteobkgajebbpaaa.disk
