/- Package geom: the methods. -/
import Derived.Test.YtjbdjdlmpcbakaaGreatQGeomNew
namespace Go.Proofs.YtjbdjdlmpcbakaaGreat.geom
open Go.RowKit Go.Proofs.YtjbdjdlmpcbakaaGreat.mem Go.Proofs.YtjbdjdlmpcbakaaGreat.base
theorem GAt.kept {w w' : World} {p : Nat} {b s l r q : Int} {S : List Nat} (h : GAt w p b s l r q) (k : Kept S w w') (hp : p ∉ S := by simp) : GAt w' p b s l r q := ⟨k.blk h.blk hp, h.ok, h.hr, h.hq⟩
theorem GAt.drewN {w : World} {p : Nat} {b s l r q : Int} (h : GAt w p b s l r q) (n : Nat) : GAt (w.drewN n) p b s l r q := ⟨h.blk, h.ok, h.hr, h.hq⟩
theorem GAt.drew {w : World} {p : Nat} {b s l r q : Int} (h : GAt w p b s l r q) : GAt w.drew p b s l r q := ⟨h.blk, h.ok, h.hr, h.hq⟩
theorem GAt.lt {w : World} {p : Nat} {b s l r q : Int} (h : GAt w p b s l r q) : p < w.heap.size := h.blk.lt

/-- The five parts. -/
def partOf (s l r q : Int) : Int → Value
  | 0 => PV 0 2 1
  | 1 => PV 2 2 r
  | 2 => PV (2 + 2 * r) (2 * q) 1
  | 3 => PV (2 + 2 * r + 2 * q) (2 * q) 1
  | _ => PV (2 + 2 * r + 4 * q) s l

theorem part_at (p : Nat) (b s l r q : Int) (k : Int) (hk : 0 ≤ k ∧ k < 5) (w : World) (h : GAt w p b s l r q) :
    Calls Tryz.prog 65 #[.pointer (some ⟨p, 0, none⟩), .int .i64 k] w fun e w' => e = .returned (partOf s l r q k) ∧ Kept [] w w' := by
  have H := hide (h.kept ((Kept.refl [] w).alloc (.cells #[.int .i64 0, .int .i64 0, .int .i64 0] 135)))
  have HK := hide fun vs : Array Value => (Kept.refl [] w).alloc (.cells vs 135)
  clear h
  obtain rfl | rfl | rfl | rfl | rfl : k = 0 ∨ k = 1 ∨ k = 2 ∨ k = 3 ∨ k = 4 := by omega
  · have c0 : (w.alloc (.cells #[.int .i64 0, .int .i64 0, .int .i64 0] 135)).cell? ⟨p, 3, none⟩ = some (.int .i64 (0)) := H.out.blk.cell 3
    have c1 : (w.alloc (.cells #[.int .i64 0, .int .i64 0, .int .i64 0] 135)).cell? ⟨p, 4, none⟩ = some (.int .i64 (2)) := H.out.blk.cell 4
    have c2 : (w.alloc (.cells #[.int .i64 0, .int .i64 0, .int .i64 0] 135)).cell? ⟨p, 5, none⟩ = some (.int .i64 (1)) := H.out.blk.cell 5
    go_enter Tryz.func65, Tryz.ntmps65
    go_wp2
    refine bodyPost_ret (v := .agg #[.int .i64 (0), .int .i64 (2), .int .i64 (1)]) (by simp [results, Tryz.results65, go_sem]) rfl ⟨rfl, ?_⟩
    exact HK.out _
  · have c0 : (w.alloc (.cells #[.int .i64 0, .int .i64 0, .int .i64 0] 135)).cell? ⟨p, 6, none⟩ = some (.int .i64 (2)) := H.out.blk.cell 6
    have c1 : (w.alloc (.cells #[.int .i64 0, .int .i64 0, .int .i64 0] 135)).cell? ⟨p, 7, none⟩ = some (.int .i64 (2)) := H.out.blk.cell 7
    have c2 : (w.alloc (.cells #[.int .i64 0, .int .i64 0, .int .i64 0] 135)).cell? ⟨p, 8, none⟩ = some (.int .i64 (r)) := H.out.blk.cell 8
    go_enter Tryz.func65, Tryz.ntmps65
    go_wp2
    refine bodyPost_ret (v := .agg #[.int .i64 (2), .int .i64 (2), .int .i64 (r)]) (by simp [results, Tryz.results65, go_sem]) rfl ⟨rfl, ?_⟩
    exact HK.out _
  · have c0 : (w.alloc (.cells #[.int .i64 0, .int .i64 0, .int .i64 0] 135)).cell? ⟨p, 9, none⟩ = some (.int .i64 (2 + 2 * r)) := H.out.blk.cell 9
    have c1 : (w.alloc (.cells #[.int .i64 0, .int .i64 0, .int .i64 0] 135)).cell? ⟨p, 10, none⟩ = some (.int .i64 (2 * q)) := H.out.blk.cell 10
    have c2 : (w.alloc (.cells #[.int .i64 0, .int .i64 0, .int .i64 0] 135)).cell? ⟨p, 11, none⟩ = some (.int .i64 (1)) := H.out.blk.cell 11
    go_enter Tryz.func65, Tryz.ntmps65
    go_wp2
    refine bodyPost_ret (v := .agg #[.int .i64 (2 + 2 * r), .int .i64 (2 * q), .int .i64 (1)]) (by simp [results, Tryz.results65, go_sem]) rfl ⟨rfl, ?_⟩
    exact HK.out _
  · have c0 : (w.alloc (.cells #[.int .i64 0, .int .i64 0, .int .i64 0] 135)).cell? ⟨p, 12, none⟩ = some (.int .i64 (2 + 2 * r + 2 * q)) := H.out.blk.cell 12
    have c1 : (w.alloc (.cells #[.int .i64 0, .int .i64 0, .int .i64 0] 135)).cell? ⟨p, 13, none⟩ = some (.int .i64 (2 * q)) := H.out.blk.cell 13
    have c2 : (w.alloc (.cells #[.int .i64 0, .int .i64 0, .int .i64 0] 135)).cell? ⟨p, 14, none⟩ = some (.int .i64 (1)) := H.out.blk.cell 14
    go_enter Tryz.func65, Tryz.ntmps65
    go_wp2
    refine bodyPost_ret (v := .agg #[.int .i64 (2 + 2 * r + 2 * q), .int .i64 (2 * q), .int .i64 (1)]) (by simp [results, Tryz.results65, go_sem]) rfl ⟨rfl, ?_⟩
    exact HK.out _
  · have c0 : (w.alloc (.cells #[.int .i64 0, .int .i64 0, .int .i64 0] 135)).cell? ⟨p, 15, none⟩ = some (.int .i64 (2 + 2 * r + 4 * q)) := H.out.blk.cell 15
    have c1 : (w.alloc (.cells #[.int .i64 0, .int .i64 0, .int .i64 0] 135)).cell? ⟨p, 16, none⟩ = some (.int .i64 (s)) := H.out.blk.cell 16
    have c2 : (w.alloc (.cells #[.int .i64 0, .int .i64 0, .int .i64 0] 135)).cell? ⟨p, 17, none⟩ = some (.int .i64 (l)) := H.out.blk.cell 17
    go_enter Tryz.func65, Tryz.ntmps65
    go_wp2
    refine bodyPost_ret (v := .agg #[.int .i64 (2 + 2 * r + 4 * q), .int .i64 (s), .int .i64 (l)]) (by simp [results, Tryz.results65, go_sem]) rfl ⟨rfl, ?_⟩
    exact HK.out _

def segAt (s l r q a : Int) : Int := if 0 ≤ a ∧ a ≤ s - 1 then 2 + 2 * r + 4 * q + a * l else -1

theorem bounds_of {b s l r q : Int} (h : Ok b s l) (hr : r = (106 + 5 * s) / 64) (hq : q = (b + 14) / 15) : 2 ≤ r ∧ r ≤ 4 ∧ 1 ≤ q ∧ q ≤ 5 := by
  obtain ⟨h1, h2, h3⟩ := h
  omega
theorem GAt.bounds {w : World} {p : Nat} {b s l r q : Int} (h : GAt w p b s l r q) : 2 ≤ r ∧ r ≤ 4 ∧ 1 ≤ q ∧ q ≤ 5 := bounds_of h.ok h.hr h.hq
theorem mul_le {i s l : Int} (hi : 0 ≤ i) (hi2 : i ≤ s) (hs : s ≤ 32) (hl : 0 ≤ l) (hl2 : l ≤ 64) : 0 ≤ i * l ∧ i * l ≤ 2048 :=
  ⟨Int.mul_nonneg hi hl, calc i * l ≤ 32 * 64 := Int.mul_le_mul (by omega) hl2 hl (by omega)
    _ = 2048 := rfl⟩

theorem config_at (p : Nat) (b s l r q : Int) (w : World) (h : GAt w p b s l r q) :
    Calls Tryz.prog 92 #[.pointer (some ⟨p, 0, none⟩)] w fun e w' => e = .returned (.agg #[.int .i64 b, .int .i64 s, .int .i64 l]) ∧ Kept [] w w' := by
  have H := hide (h.kept ((Kept.refl [] w).alloc (.cells #[.int .i64 0, .int .i64 0, .int .i64 0] 29)))
  have HK := hide fun vs : Array Value => (Kept.refl [] w).alloc (.cells vs 29)
  clear h
  have c0 : (w.alloc (.cells #[.int .i64 0, .int .i64 0, .int .i64 0] 29)).cell? ⟨p, 0, none⟩ = some (.int .i64 b) := H.out.blk.cell 0
  have c1 : (w.alloc (.cells #[.int .i64 0, .int .i64 0, .int .i64 0] 29)).cell? ⟨p, 1, none⟩ = some (.int .i64 s) := H.out.blk.cell 1
  have c2 : (w.alloc (.cells #[.int .i64 0, .int .i64 0, .int .i64 0] 29)).cell? ⟨p, 2, none⟩ = some (.int .i64 l) := H.out.blk.cell 2
  go_enter Tryz.func92, Tryz.ntmps92
  go_wp2
  refine bodyPost_ret (v := .agg #[.int .i64 b, .int .i64 s, .int .i64 l]) (by simp [results, Tryz.results92, go_sem]) rfl ⟨rfl, ?_⟩
  exact HK.out _

theorem seg_any (p : Nat) (b s l r q a : Int) (w : World) (h : GAt w p b s l r q) :
    Calls Tryz.prog 29 #[.pointer (some ⟨p, 0, none⟩), .int .i64 a] w fun e w' => e = .returned (.int .i64 (segAt s l r q a)) ∧ Kept [] w w' := by
  have H := hide h
  have hb := h.bounds
  have hs := h.ok
  unfold Ok at hs
  clear h
  by_cases hi : 0 ≤ a ∧ a ≤ s - 1
  · have hv : Hid (segAt s l r q a = 2 + 2 * r + 4 * q + a * l) := hide (by unfold segAt; rw [if_pos (by omega)])
    have hm : 0 ≤ a * l ∧ a * l ≤ 2048 := mul_le (s := 31) hi.1 (by omega) (by omega) (by omega) (by omega)
    go_enter Tryz.func29, Tryz.ntmps29
    go_wp2_with fail
    refine (part_at p b s l r q 4 (by omega) _ H.out).mono ?_
    rintro e w1 ⟨rfl, hk⟩
    unfold partOf
    go_wp2_with fail
    refine (first_yes (2 + 2 * r + 4 * q) s l a _ (by omega) (by omega) hi hm.1 (by omega) (by omega) (by omega)).mono ?_
    rintro e w2 ⟨rfl, hk2⟩
    go_wp2
    go_ret
    exact ⟨congrArg (fun q => Ending.returned (.int .i64 q)) hv.out.symm, hk.trans hk2 (by simp)⟩
  · have hv : Hid (segAt s l r q a = -1) := hide (by unfold segAt; rw [if_neg (by omega)])
    have hi2 : a < 0 ∨ s - 1 < a := by omega
    clear hi
    go_enter Tryz.func29, Tryz.ntmps29
    go_wp2_with fail
    refine (part_at p b s l r q 4 (by omega) _ H.out).mono ?_
    rintro e w1 ⟨rfl, hk⟩
    unfold partOf
    go_wp2_with fail
    refine (first_no (2 + 2 * r + 4 * q) s l a _ (by omega) (by omega) hi2).mono ?_
    rintro e w2 ⟨rfl, hk2⟩
    go_wp2
    go_ret
    exact ⟨congrArg (fun q => Ending.returned (.int .i64 q)) hv.out.symm, hk.trans hk2 (by simp)⟩

end Go.Proofs.YtjbdjdlmpcbakaaGreat.geom
