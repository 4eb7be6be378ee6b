import Derived.Test.YtolbalafhfpjbaaGreatPUsageOps
import Derived.Test.YtolbalafhfpjbaaGreatPUsageFrees
import Derived.Deep.MidRow
namespace Go.Proofs.YtolbalafhfpjbaaGreat.us
set_option linter.unusedSimpArgs false
open Go.RowKit mem base geom
theorem config_gc (p : Nat) (b s l r q : Int) (w : World) (h : GAt w p b s l r q) :
  Calls Tryz.prog 148 #[.pointer (some ⟨p, 0, none⟩)] w fun e w' => e = .returned (.agg #[.int .i64 b, .int .i64 s, .int .i64 l]) ∧ Kept [] w w' := config_at p b s l r q w h

theorem conf_segs (x y z : Int) (w : World) : (Instr.field 29 (.agg #[.int .i64 x, .int .i64 y, .int .i64 z]) 1).run Tryz.prog w = .ok (.int .i64 y) w := by kernel_rfl
theorem geom_range (p : Nat) (b s l r q : Int) (w : World) (h : GAt w p b s l r q) :
  w.rangeAt p 0 [.int .i64 b, .int .i64 s, .int .i64 l, .int .i64 0, .int .i64 2, .int .i64 1, .int .i64 2, .int .i64 2, .int .i64 r, .int .i64 (2 + 2 * r), .int .i64 (2 * q), .int .i64 1, .int .i64 (2 + 2 * r + 2 * q), .int .i64 (2 * q), .int .i64 1, .int .i64 (2 + 2 * r + 4 * q), .int .i64 s, .int .i64 l] := fun j v hv => by
 rw [Nat.zero_add, h.blk.cell j]
 rw [← List.getElem?_toArray] at hv
 exact hv

set_option maxRecDepth 100000 in
set_option maxHeartbeats 1000000 in
theorem new_none (p : Nat) (b s l r q : Int) (A : Option Addr) (c : Nat) (w : World) (h : GAt w p b s l r q) :
  Calls Tryz.prog 95 #[.pointer (some ⟨p, 0, none⟩), .slice A 0 c] w fun e w' => ∃ p' V, e = .returned (.pointer (some ⟨p', 0, none⟩)) ∧ w.heap.size ≤ p' ∧ w.heap.size ≤ V ∧ TAt w' p' V b s l r q (List.replicate s.toNat Rw.zero) ∧ Kept [] w w' := by
 obtain ⟨_, hs, _⟩ := h.ok
 have H := hide h
 have hmk := fun w => made_segs s.toNat (by omega) w
 have hst : ((s.toNat : Nat) : Int) = s := by omega
 obtain ⟨m, hm⟩ : ∃ m, s.toNat = m := ⟨_, rfl⟩
 rw [hm] at hst hmk ⊢
 subst hst
 have hfd := conf_segs b m l
 clear h hm
 go_enter Tryz.func95, Tryz.ntmps95
 go_wp2_with fail
 refine (config_gc p b m l r q _ H.out).mono ?_
 rintro e w1 ⟨rfl, hk⟩
 have HB : Hid (Blk (w1.alloc (.cells (segsOf (List.replicate m Rw.zero)).toArray 201)) w1.heap.size 201 (segsOf (List.replicate m Rw.zero)).toArray) := hide (Blk.new _ _ _)
 have HK := hide (hk.alloc (.cells (segsOf (List.replicate m Rw.zero)).toArray 201))
 have hsz := hk.size
 obtain ⟨V, hV⟩ : ∃ V, w1.heap.size = V := ⟨_, rfl⟩
 obtain ⟨w2, hw2⟩ : ∃ w2, w1.alloc (.cells (segsOf (List.replicate m Rw.zero)).toArray 201) = w2 := ⟨_, rfl⟩
 rw [hw2, hV] at HB
 rw [hw2] at HK
 clear hk
 go_wp2
 go_loopw [26] (fun i wr => i = .int .i64 0 ∧ wr = w2) (fun i _ => 0)
 case atStart => exact ⟨rfl, rfl⟩
 case round =>
  obtain ⟨rfl, rfl⟩ := hrel
  have hld := hide (geom_range p b m l r q wr (H.out.kept HK.out))
  go_wp2_with (refine wpList_load_mid rfl 211 (.tmp 41) rfl p 0 rfl _ _ hld.out rfl rfl rfl ?_)
  go_ret
  have hVl := HB.out.lt
  exact ⟨_, V, rfl, HK.out.size, by omega, ⟨by rw [List.length_replicate]; exact Blk.new _ _ _, HB.out.alloc _, by omega, H.out.ok, H.out.hr, H.out.hq, by simp, rep_good m⟩, HK.out.alloc _⟩

end Go.Proofs.YtolbalafhfpjbaaGreat.us
