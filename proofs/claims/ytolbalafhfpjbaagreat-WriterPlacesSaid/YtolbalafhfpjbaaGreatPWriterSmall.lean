import Derived.Test.YtolbalafhfpjbaaGreatPScanCore
import Derived.Test.YtolbalafhfpjbaaGreatPUsageTake
import Derived.Test.YtolbalafhfpjbaaGreatPItemSmall
set_option maxRecDepth 100000
namespace Go.Proofs.YtolbalafhfpjbaaGreat.wr
set_option linter.unusedSimpArgs false
set_option linter.unusedVariables false
open Go.RowKit mem base disk owns geom
open sc (Ps Seal sealed)
open us (Rw inState TAt)
open item (It)
open record (cell5)
def WAt (W : World) (v d g tp : Nat) (p : Ps) (A : Option Addr) (n c : Nat) (H : Option Addr) (m e : Nat) : Prop :=
 Blk W v 180 #[.pointer (some ⟨d, 0, none⟩), .pointer (some ⟨g, 0, none⟩), .pointer (some ⟨tp, 0, none⟩), .int .i64 p.s, .int .i64 p.o, .int .i64 p.l, .int .i64 p.v, .int .i64 p.m, .slice A n c, .slice H m e]
section
variable {W W' : World} {v d g tp n c m e : Nat} {p : Ps} {A H : Option Addr}
theorem WAt.ptr (h : WAt W v d g tp p A n c H m e) : W.cell? ⟨v, 0, none⟩ = some (.pointer (some ⟨d, 0, none⟩)) ∧ W.cell? ⟨v, 1, none⟩ = some (.pointer (some ⟨g, 0, none⟩)) ∧ W.cell? ⟨v, 2, none⟩ = some (.pointer (some ⟨tp, 0, none⟩)) := ⟨h.cell 0, h.cell 1, h.cell 2⟩
theorem WAt.place (h : WAt W v d g tp p A n c H m e) : W.cell? ⟨v, 3, none⟩ = some (.int .i64 p.s) ∧ W.cell? ⟨v, 4, none⟩ = some (.int .i64 p.o) ∧ W.cell? ⟨v, 5, none⟩ = some (.int .i64 p.l) ∧ W.cell? ⟨v, 6, none⟩ = some (.int .i64 p.v) ∧ W.cell? ⟨v, 7, none⟩ = some (.int .i64 p.m) := ⟨h.cell 3, h.cell 4, h.cell 5, h.cell 6, h.cell 7⟩
theorem WAt.rows (h : WAt W v d g tp p A n c H m e) : W.cell? ⟨v, 8, none⟩ = some (.slice A n c) ∧ W.cell? ⟨v, 9, none⟩ = some (.slice H m e) := ⟨h.cell 8, h.cell 9⟩
theorem WAt.kept {S : List Nat} (h : WAt W v d g tp p A n c H m e) (k : Kept S W W') (hv : v ∉ S) : WAt W' v d g tp p A n c H m e := k.blk h hv
theorem WAt.keep (h : WAt W v d g tp p A n c H m e) (k : Kept [] W W') : WAt W' v d g tp p A n c H m e := k.blk h (by simp)
theorem WAt.lt (h : WAt W v d g tp p A n c H m e) : v < W.heap.size := Blk.lt h
end
theorem segIn {s l r q a : Int} (ha : 0 ≤ a ∧ a ≤ s - 1) : segAt s l r q a = 2 + 2 * r + 4 * q + a * l := by
 unfold segAt
 rw [if_pos ha]
theorem segBd {w : World} {g : Nat} {b s l r q a : Int} (h : GAt w g b s l r q) (ha : 0 ≤ a ∧ a ≤ s - 1) : 0 ≤ 2 + 2 * r + 4 * q + a * l ∧ 2 + 2 * r + 4 * q + a * l + l ≤ 2 + 2 * r + 4 * q + s * l ∧ 2 + 2 * r + 4 * q + s * l ≤ 2500 := by
 have hb := h.bounds
 have hs := h.ok
 unfold Ok at hs
 have h1 : 0 ≤ a * l := Int.mul_nonneg ha.1 (by omega)
 have h2 : a * l ≤ (s - 1) * l := Int.mul_le_mul_of_nonneg_right ha.2 (by omega)
 have h3 : s * l ≤ 32 * 64 := Int.mul_le_mul (by omega) (by omega) (by omega) (by omega)
 rw [Int.sub_mul, Int.one_mul] at h2
 omega
def offOf (p : Ps) : Int := if p.o < 1 then 1 else p.o
theorem offOf_le {p : Ps} (h : 0 ≤ p.o) : 1 ≤ offOf p ∧ p.o ≤ offOf p ∧ (offOf p = p.o ∨ (p.o = 0 ∧ offOf p = 1)) := by unfold offOf; split <;> omega

theorem off_any (v d g tp n c m e : Nat) (p : Ps) (A H : Option Addr) (w : World) (h : WAt w v d g tp p A n c H m e) :
  Calls Tryz.prog 167 #[.pointer (some ⟨v, 0, none⟩)] w fun e' w' => e' = .returned (.int .i64 (offOf p)) ∧ w = w' := by
 obtain ⟨q0, q1, q2, q3, q4⟩ := h.place
 clear h
 by_cases ho : p.o < 1
 ·rw [show offOf p = 1 from if_pos ho]
  go_enter Tryz.func167, Tryz.ntmps167
  go_wp2
  go_ret
  exact ⟨rfl, rfl⟩
 ·rw [show offOf p = p.o from if_neg ho]
  go_enter Tryz.func167, Tryz.ntmps167
  go_wp2
  go_ret
  exact ⟨rfl, rfl⟩
theorem blocks_any (v d g tp n c m e k : Nat) (p : Ps) (A H : Option Addr) (w : World) (h : WAt w v d g tp p A n c H m e) (hm : m = 64 * k) (hk : k ≤ 1000) :
  Calls Tryz.prog 116 #[.pointer (some ⟨v, 0, none⟩)] w fun e' w' => e' = .returned (.int .i64 k) ∧ w = w' := by
 obtain ⟨q8, q9⟩ := h.rows
 have hq : (m : Int).tdiv 64 = (k : Int) := by rw [Int.tdiv_eq_ediv_of_nonneg (by omega)]; omega
 have hw : IntKind.i64.wrap (k : Int) = (k : Int) := IntWalk.i64_in _ (by omega)
 clear h hm
 go_enter Tryz.func116, Tryz.ntmps116
 go_wp2
 go_ret
 exact ⟨rfl, rfl⟩
theorem pos_any (v d g tp n c m e : Nat) (p : Ps) (A H : Option Addr) (w : World) (h : WAt w v d g tp p A n c H m e) :
  Calls Tryz.prog 60 #[.pointer (some ⟨v, 0, none⟩)] w fun e' w' => e' = .returned p.val ∧ Kept [] w w' := by
 have hk0 := (Kept.refl [] w).alloc (.cells #[.int .i64 0, .int .i64 0, .int .i64 0, .int .i64 0, .int .i64 0] 24)
 obtain ⟨q0, q1, q2, q3, q4⟩ := (h.keep hk0).place
 have HKA := hide (fun vs : Array Value => (Kept.refl [] w).alloc (.cells vs 24))
 clear hk0 h
 unfold Ps.val
 go_enter Tryz.func60, Tryz.ntmps60
 go_wp2
 refine bodyPost_ret (v := .agg #[.int .i64 p.s, .int .i64 p.o, .int .i64 p.l, .int .i64 p.v, .int .i64 p.m]) (by simp [results, Tryz.results60, go_sem]) rfl ⟨rfl, HKA.out _⟩
theorem waiting_any (v d g tp n c m e : Nat) (p : Ps) (A H : Option Addr) (w : World) (h : WAt w v d g tp p A n c H m e) :
  Calls Tryz.prog 56 #[.pointer (some ⟨v, 0, none⟩)] w fun e' w' => e' = .returned (.int .i64 n) ∧ w = w' := by
 obtain ⟨q8, q9⟩ := h.rows
 clear h
 go_enter Tryz.func56, Tryz.ntmps56
 go_wp2
 go_ret
 exact ⟨rfl, rfl⟩
theorem waiting_nil (w : World) :
  Calls Tryz.prog 56 #[.pointer none] w fun e' w' => e' = .returned (.int .i64 0) ∧ w = w' := by
 go_enter Tryz.func56, Tryz.ntmps56
 go_wp2
 go_ret
 exact ⟨rfl, rfl⟩
theorem block_any (v d g tp n c m e : Nat) (p : Ps) (A H : Option Addr) (b s l r q k : Int) (w : World) (h : WAt w v d g tp p A n c H m e) (hg : GAt w g b s l r q) (hp : 0 ≤ p.s ∧ p.s ≤ s - 1) (ho : 0 ≤ p.o ∧ p.o ≤ 1000) (hk : 0 ≤ k ∧ k ≤ 1000) :
  Calls Tryz.prog 115 #[.pointer (some ⟨v, 0, none⟩), .int .i64 k] w fun e' w' => e' = .returned (.int .i64 (2 + 2 * r + 4 * q + p.s * l + offOf p + 1 + k)) ∧ Kept [] w w' := by
 have hof := offOf_le ho.1
 have hb := segBd hg hp
 have hl := hg.ok
 unfold Ok at hl
 have HW := hide h
 have HG := hide hg
 have HP := hide hp
 obtain ⟨f, hf⟩ : ∃ f, offOf p = f := ⟨_, rfl⟩
 have HF := sealed hf
 rw [hf] at hof ⊢
 have h1 : IntKind.i64.wrap (2 + 2 * r + 4 * q + p.s * l + f) = 2 + 2 * r + 4 * q + p.s * l + f := IntWalk.i64_in _ (by omega)
 have h2 : IntKind.i64.wrap (2 + 2 * r + 4 * q + p.s * l + f + 1) = 2 + 2 * r + 4 * q + p.s * l + f + 1 := IntWalk.i64_in _ (by omega)
 have h3 : IntKind.i64.wrap (2 + 2 * r + 4 * q + p.s * l + f + 1 + k) = 2 + 2 * r + 4 * q + p.s * l + f + 1 + k := IntWalk.i64_in _ (by omega)
 have HALL := hide (show ∀ W, Kept [] w W → (fun W => Kept [] w W ∧ W.cell? ⟨v, 1, none⟩ = some (.pointer (some ⟨g, 0, none⟩)) ∧ W.cell? ⟨v, 3, none⟩ = some (.int .i64 p.s)) W from fun W k => ⟨k, (HW.out.keep k).ptr.2.1, (HW.out.keep k).place.1⟩)
 clear h hg hp hb hof hf hl
 go_enter Tryz.func115, Tryz.ntmps115
 go_wp2
 refine wp_region_noPanic ?_
 refine wp_region_held_drew (S := fun W => Kept [] w W ∧ W.cell? ⟨v, 1, none⟩ = some (.pointer (some ⟨g, 0, none⟩)) ∧ W.cell? ⟨v, 3, none⟩ = some (.int .i64 p.s)) (by kernel_rfl) (by exact HALL.out _ ((Kept.refl [] w).drew)) (fun hHeld => ?_)
 refine tK 0 5 rfl ?_
 try simp only [Act.put, pA, pB, pC]
 refine tK 1 6 rfl ?_
 try simp only [Act.put, pA, pB, pC]
 refine tK 2 7 rfl ?_
 try simp only [Act.put, pA, pB, pC]
 refine tK 3 8 rfl ?_
 try simp only [Act.put, pA, pB, pC]
 refine tK 4 9 rfl ?_
 try simp only [Act.put, pA, pB, pC]
 refine tK 5 10 rfl ?_
 try simp only [Act.put, pA, pB, pC]
 refine tK 6 11 rfl ?_
 try simp only [Act.put, pA, pB, pC]
 refine tK 7 12 rfl ?_
 try simp only [Act.put, pA, pB, pC]
 refine tK 8 13 rfl ?_
 try simp only [Act.put, pA, pB, pC]
 refine tK 10 15 rfl ?_
 try simp only [Act.put, pA, pB, pC]
 refine tK 14 19 rfl ?_
 try simp only [Act.put, pA, pB, pC]
 refine hO 9 (some 14) rfl fun K hK => ?_
 go_simp
 refine (seg_any g b s l r q p.s _ (HG.out.kept hHeld.1)).mono ?_
 rintro e1 wB ⟨rfl, hkB⟩
 rw [segIn HP.out]
 have HB := hide (hHeld.1.trans hkB (by simp))
 refine hK.out _ _ (by exact HALL.out _ HB.out) (fun hHeld => ?_)
 clear hK K
 try simp only [Act.put, pA, pB, pC]
 refine hO 11 (some 16) rfl fun K hK => ?_
 go_simp
 refine (off_any v d g tp n c m e p A H _ (HW.out.keep HB.out)).mono ?_
 rintro e1 wC ⟨rfl, rfl⟩
 rw [HF.out]
 refine hK.out _ _ (by exact HALL.out _ HB.out) (fun hHeld => ?_)
 clear hK K
 try simp only [Act.put, pA, pB, pC]
 refine tK 12 17 rfl ?_
 try simp only [Act.put, pA, pB, pC]
 refine tK 13 18 rfl ?_
 try simp only [Act.put, pA, pB, pC]
 refine tK 15 20 rfl ?_
 try simp only [Act.put, pA, pB, pC]
 refine tK 16 4 rfl ?_
 try simp only [Act.put, pA, pB, pC]
 refine wpAnyH_done (by kernel_rfl) ?_ _
 refine NoPanic.normal ?_
 go_wp2
 go_ret
 exact ⟨rfl, HB.out⟩
theorem field_l (a c z : Int) (w : World) : (Instr.field 29 (.agg #[.int .i64 a, .int .i64 c, .int .i64 z]) 2).run Tryz.prog w = .ok (.int .i64 z) w := by kernel_rfl
theorem fits_any (v d g tp n c m e : Nat) (p : Ps) (A H : Option Addr) (b s l r q x k : Int) (i : It) (w : World) (h : WAt w v d g tp p A n c H m e) (hg : GAt w g b s l r q) (hx : 0 ≤ x ∧ x ≤ 10000) (hk : 0 ≤ k ∧ k ≤ 1000) :
  Calls Tryz.prog 168 #[.pointer (some ⟨v, 0, none⟩), .int .i64 x, .int .i64 k, i.val] w fun e' w' => e' = .returned (.bool (decide (x + 1 + (k + (if i.loaded = true then 1 else 0)) < l))) ∧ Kept [] w w' := by
 have hk0 := (Kept.refl [] w).alloc (.cells #[.int .i64 i.k, .int .i64 i.b, .int .i64 i.c, .int .i64 i.v] 84)
 have hb0 := Blk.new w 84 #[.int .i64 i.k, .int .i64 i.b, .int .i64 i.c, .int .i64 i.v]
 obtain ⟨z, hz⟩ : ∃ z, w.heap.size = z := ⟨_, rfl⟩
 obtain ⟨w0, hw0⟩ : ∃ w0, w.alloc (.cells #[.int .i64 i.k, .int .i64 i.b, .int .i64 i.c, .int .i64 i.v] 84) = w0 := ⟨_, rfl⟩
 rw [hw0, hz] at hb0
 rw [hw0] at hk0
 obtain ⟨i0, i1, i2, i3⟩ : w0.cell? ⟨z, 0, none⟩ = some (.int .i64 i.k) ∧ w0.cell? ⟨z, 1, none⟩ = some (.int .i64 i.b) ∧ w0.cell? ⟨z, 2, none⟩ = some (.int .i64 i.c) ∧ w0.cell? ⟨z, 3, none⟩ = some (.int .i64 i.v) := ⟨hb0.cell 0, hb0.cell 1, hb0.cell 2, hb0.cell 3⟩
 have HW := hide (h.keep hk0)
 have HG := hide (hg.kept hk0)
 have HK := hide hk0
 clear h hg hk0 hb0
 have HL := hide (fun W => item.loaded_any i W)
 unfold It.val at HL ⊢
 obtain ⟨ld, hld⟩ : ∃ ld, i.loaded = ld := ⟨_, rfl⟩
 rw [hld] at HL ⊢
 have hfl := field_l b s l
 go_enter Tryz.func168, Tryz.ntmps168
 go_wp2_with fail
 refine (HL.out _).mono ?_
 rintro e1 w1 ⟨rfl, hk1⟩
 have HW1 := hide (HW.out.keep hk1)
 have HG1 := hide (HG.out.kept hk1)
 have HK1 := hide (HK.out.trans hk1 (by simp))
 obtain ⟨q0, q1, q2⟩ := HW1.out.ptr
 clear hk1 HW HG HK i0 i1 i2 i3
 cases ld
 ·have h1 : IntKind.i64.wrap (x + 1) = x + 1 := IntWalk.i64_in _ (by omega)
  have h2 : IntKind.i64.wrap (x + 1 + k) = x + 1 + k := IntWalk.i64_in _ (by omega)
  go_wp2_with fail
  refine (config_at g b s l r q _ HG1.out).mono ?_
  rintro e1 w2 ⟨rfl, hk2⟩
  have HK2 := hide (HK1.out.trans hk2 (by simp))
  go_wp2
  go_ret
  exact ⟨by simp, HK2.out⟩
 ·have h0 : IntKind.i64.wrap (k + 1) = k + 1 := IntWalk.i64_in _ (by omega)
  have h1 : IntKind.i64.wrap (x + 1) = x + 1 := IntWalk.i64_in _ (by omega)
  have h2 : IntKind.i64.wrap (x + 1 + (k + 1)) = x + 1 + (k + 1) := IntWalk.i64_in _ (by omega)
  go_wp2_with fail
  refine (config_at g b s l r q _ HG1.out).mono ?_
  rintro e1 w2 ⟨rfl, hk2⟩
  have HK2 := hide (HK1.out.trans hk2 (by simp))
  go_wp2
  go_ret
  exact ⟨by simp, HK2.out⟩
theorem within_any (x lo hi : Int) (w : World) :
  Calls Tryz.prog 196 #[.int .i64 x, .int .i64 lo, .int .i64 hi] w fun e' w' => e' = .returned (.bool (decide (lo ≤ x ∧ x ≤ hi))) ∧ w = w' := by
 by_cases h1 : lo ≤ x
 ·have d1 : decide (lo ≤ x) = true := decide_eq_true h1
  by_cases h2 : x ≤ hi
  ·have d2 : decide (x ≤ hi) = true := decide_eq_true h2
   go_enter Tryz.func196, Tryz.ntmps196
   go_wp2
   go_ret
   exact ⟨by simp [h1, h2], rfl⟩
  ·have d2 : decide (x ≤ hi) = false := decide_eq_false h2
   go_enter Tryz.func196, Tryz.ntmps196
   go_wp2
   go_ret
   exact ⟨by simp [h1, h2], rfl⟩
 ·have d1 : decide (lo ≤ x) = false := decide_eq_false h1
  go_enter Tryz.func196, Tryz.ntmps196
  go_wp2
  go_ret
  exact ⟨by simp [h1], rfl⟩
end Go.Proofs.YtolbalafhfpjbaaGreat.wr
