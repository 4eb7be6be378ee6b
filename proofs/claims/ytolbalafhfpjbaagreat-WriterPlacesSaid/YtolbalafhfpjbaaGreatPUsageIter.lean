import Derived.RangeFuncNested
import Derived.RangeFuncBound
import Derived.RangeFuncCalls
import Derived.RangeFuncLeaves
import Derived.Shelf.Abstract
import Derived.Shelf.RegionOpen
import Derived.WalkKit
import Derived.OwnWalkIn
import Derived.TacticsInMore
import Derived.LoopNIn
import Derived.LoopIn
import Derived.Test.YtolbalafhfpjbaaGreatPUsageOps
namespace Go.Proofs.YtolbalafhfpjbaaGreat.us
set_option linter.unusedSimpArgs false
open Go.RowKit mem base geom
attribute [local go_sem] Oper.semAt_some
def inState (rs : List Rw) (st : Int) (k : Nat) : List Int := ((List.range k).filter fun i : Nat => decide ((rowAt rs (i : Int)).s = st)).map fun i : Nat => (i : Int)
theorem inState_yes {rs : List Rw} {st : Int} {k : Nat} {x : Rw} (h : rs[k]? = some x) (hs : x.s = st) : inState rs st (k + 1) = inState rs st k ++ [(k : Int)] := by
 simp [inState, List.range_succ, List.filter_append, rowAt_yes h, hs]
theorem inState_no {rs : List Rw} {st : Int} {k : Nat} {x : Rw} (h : rs[k]? = some x) (hs : ¬ x.s = st) : inState rs st (k + 1) = inState rs st k := by
 simp [inState, List.range_succ, List.filter_append, rowAt_yes h, hs]
theorem inState_length (rs : List Rw) (st : Int) (k : Nat) : (inState rs st k).length ≤ k := by
 unfold inState
 rw [List.length_map]
 exact Nat.le_trans (List.length_filter_le _ _) (by simp)
theorem inState_lt (rs : List Rw) (st : Int) (k : Nat) : ∀ y ∈ inState rs st k, y < (k : Int) := by
 intro y hy
 simp only [inState, List.mem_map, List.mem_filter, List.mem_range] at hy
 obtain ⟨a, ⟨ha, _⟩, rfl⟩ := hy
 omega
theorem inState_prefix (rs : List Rw) (st : Int) (k n : Nat) (h : k ≤ n) : inState rs st k <+: inState rs st n := by
 obtain ⟨m, rfl⟩ : ∃ m, n = k + m := ⟨n - k, by omega⟩
 unfold inState
 rw [List.range_add, List.filter_append, List.map_append]
 exact List.prefix_append _ _
def InI (Bt Bs p V : Nat) (b s l r q st : Int) (rs : List Rw) (pre : List Int) (W : World) : Prop :=
 W.cell? ⟨Bt, 0, none⟩ = some (.pointer (some ⟨p, 0, none⟩)) ∧ W.cell? ⟨Bs, 0, none⟩ = some (.int .i64 st) ∧
 ∃ rs', rs'.length = rs.length ∧ (∀ i : Nat, (∀ x ∈ pre, x < (i : Int)) → rs'[i]? = rs[i]?) ∧ TAt W p V b s l r q rs'

set_option maxRecDepth 100000 in
set_option maxHeartbeats 2000000 in
theorem in1_any (F : Fence) (n : Nat) (hwide : F = Fence.wide) (lp Bt Bs : Nat) (p V : Nat) (b s l r q st : Int) (rs : List Rw) (J Jx : List Int → World → Prop)
  (hI : ∀ pre W, J pre W → InI Bt Bs p V b s l r q st rs pre W) (hJd : ∀ pre W m, J pre W → J pre (W.drewN m))
  (hY : ∀ pre (k : Nat) x W, J pre W → rs[k]? = some x → x.s = st → (∀ y ∈ pre, y < (k : Int)) → pre.length < rs.length → YieldAt F (n - 1) Tryz.prog lp #[.int .i64 k] W fun e W' =>
   (e = .returned (.bool true) ∧ J (pre ++ [(k : Int)]) W') ∨ (e = .returned (.bool false) ∧ Jx (pre ++ [(k : Int)]) W'))
  (W : World) (h0 : J [] W) :
  CallsIn F n Tryz.prog 180 #[.func (.yield lp) #[] #[], .pointer (some ⟨Bt, 0, none⟩), .pointer (some ⟨Bs, 0, none⟩)] W fun e W' => (∃ v, e = .returned v) ∧
   (J (inState rs st rs.length) W' ∨ (∃ pre, pre <+: inState rs st rs.length ∧ Jx pre W')) := by
 subst hwide
 have HI := hide hI
 have HJD := hide hJd
 have HY := hide hY
 have H0 := hide h0
 obtain ⟨cB, cS, rs0, hl0, _, ht0⟩ := hI _ _ h0
 have HT := hide ht0
 have hbd := ht0.bounds
 rw [hl0] at hbd
 have hmx : Tryz.prog.follows .mixedOrders = true := by kernel_rfl
 clear hI hJd hY h0 ht0
 refine callsIn_of_wp Tryz.func180 rfl trivial ?_ rfl
 simp only [Tryz.ntmps180, List.size_toArray, List.length_cons, List.length_nil, Nat.reduceAdd, Nat.reduceSub, Array.replicate_succ, Array.replicate_zero, List.push_toArray, List.append_toArray, List.nil_append, List.cons_append]
 gi_wp2_with (refine ⟨trivial, (by intro h; cases h), ?_⟩; gi_at_call 178; refine (callsIn_wide.2 (count_any HT.out)).mono ?_; rintro e w' ⟨rfl, rfl⟩)
 gi_loopw [7] (fun i wr => ∃ k : Nat, k ≤ rs.length ∧ i = .int .i64 k ∧ Hid (J (inState rs st k) wr)) (fun i _ => rs.length - (intOf i).toNat)
 case atStart => exact ⟨0, Nat.zero_le _, rfl, H0⟩
 case round =>
  obtain ⟨k, hk, rfl, HJ⟩ := hrel
  by_cases hlt : k < rs.length
  ·obtain ⟨d, e, rs1, hl1, hr1, ht1⟩ := HI.out _ _ HJ.out
   obtain ⟨x, hx⟩ : ∃ x, rs[k]? = some x := ⟨_, List.getElem?_eq_getElem hlt⟩
   have hx1 : rs1[k]? = some x := (hr1 k (inState_lt rs st k)).trans hx
   have c1 := ht1.c1
   rw [hl1] at c1
   have cs := (ht1.cells hx1).1
   have HT1 := hide ht1
   have HX := hide hx
   have hk0 : (0 : Int) ≤ k := by omega
   have hk1 : (k : Int) < (rs.length : Int) := by omega
   clear hr1 ht1 hx1 hl1 hx
   by_cases hs : x.s = st
   ·have HS := hide hs
    have he : (x.s == st) = true := beq_iff_eq.2 hs
    have HN := hide (inState_yes HX.out hs)
    clear hs
    obtain ⟨fn, tmps, assign, body, hy, hR⟩ := HY.out _ k x wr.drew (HJD.out _ _ 1 HJ.out) HX.out HS.out (inState_lt rs st k) (Nat.lt_of_le_of_lt (inState_length rs st k) hlt)
    have hR2 : RoundIn Fence.wide (n - 1) Tryz.prog lp fn tmps assign body wr.drew fun e W' => ∃ bb, e = .returned (.bool bb) ∧ ((bb = true ∧ J (inState rs st k ++ [(k : Int)]) W') ∨ (bb = false ∧ Jx (inState rs st k ++ [(k : Int)]) W')) := hR.mono (by
     rintro e W3 (⟨rfl, hJ3⟩ | ⟨rfl, hJx3⟩)
     ·exact ⟨_, rfl, .inl ⟨rfl, hJ3⟩⟩
     ·exact ⟨_, rfl, .inr ⟨rfl, hJx3⟩⟩)
    clear hR
    gi_wp2
    gi_region_with_o (refine ⟨(by intro h; cases h), ?_⟩; refine hR2.mono ?_; rintro e W3 ⟨bb, rfl, hJ3⟩)
    all_goals
     have HJ3 := hide hJ3
     clear hJ3
     cases bb
     ·have HJX := hide (HJ3.out.resolve_left (fun h => by cases h.1)).2
      have HPX : Hid (inState rs st k ++ [(k : Int)] <+: inState rs st rs.length) := hide (by rw [← HN.out]; exact inState_prefix rs st _ _ hlt)
      gi_wp2
      refine bodyPost_ret (results_none rfl _ _ _) rfl ?_
      exact ⟨⟨_, rfl⟩, .inr ⟨_, HPX.out, HJX.out⟩⟩
     ·have HJX := hide (HJ3.out.resolve_right (fun h => by cases h.1)).2
      gi_wp2
      go_roundw
      case rel => exact ⟨k + 1, by omega, by go_num, by rw [HN.out]; exact HJX⟩
      case measure => simp [intOf]; omega
   ·have he : (x.s == st) = false := beq_eq_false_iff_ne.2 hs
    have HN := hide (inState_no HX.out hs)
    clear hs
    have HJ2 := hide fun m => HJD.out _ _ m HJ.out
    gi_wp2
    refine wpIn_region_quiet_lit rfl (by kernel_rfl) (by kernel_rfl) ?_
    repeat (gi_big_quiet_step (fail))
    refine BigFrame.wpQuietIn_skip (fun _ _ _ _ => trivial) (by kernel_rfl) ?_
    simp only [Act.put, List.setIfInBounds_toArray, List.set_cons_succ, List.set_cons_zero]
    repeat (gi_big_quiet_step (fail))
    refine wpQuietIn_nil ?_
    intro _ hw'
    obtain ⟨nq, rfl⟩ := hw'
    gi_wp2
    go_roundw
    case rel => exact ⟨k + 1, by omega, by go_num, by rw [HN.out]; exact hide (HJ2.out _)⟩
    case measure => simp [intOf]; omega
  ·obtain rfl : k = rs.length := by omega
   gi_wp2
   go_end0
   exact ⟨⟨_, rfl⟩, .inl HJ.out⟩
end Go.Proofs.YtolbalafhfpjbaaGreat.us
