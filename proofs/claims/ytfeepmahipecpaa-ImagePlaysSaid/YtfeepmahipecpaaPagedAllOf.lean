/- Package paged: All, a walk over all places. -/
import Derived.RangeFuncNested
import Derived.RangeFuncBound
import Derived.RangeFuncCalls
import Derived.RangeFuncLeaves
import Derived.Shelf.Abstract
import Derived.Shelf.RegionOpen
import Derived.WalkKit
import Derived.OwnWalkIn
import Derived.TacticsInMore
import Derived.LoopNIn
import Derived.LoopIn
import Derived.Test.YtfeepmahipecpaaPagedNewInt
import Derived.Test.YtfeepmahipecpaaPagedDirtInt
namespace Go.Proofs.Ytfeepmahipecpaa.pd
set_option linter.unusedSimpArgs false
open Go.RowKit Go.Proofs.Ytfeepmahipecpaa.mem Go.Proofs.Ytfeepmahipecpaa.base

attribute [local go_sem] Oper.semAt_some

/-- Places and values, the first so many. -/
def placed (l : List Int) (k : Nat) : List (Nat × Int) := (List.range k).map fun i => (i, l.getD i 0)
theorem placed_succ (l : List Int) (k : Nat) (x : Int) (h : l[k]? = some x) : placed l (k + 1) = placed l k ++ [(k, x)] := by simp [placed, List.range_succ, h]
theorem placed_length (l : List Int) (k : Nat) : (placed l k).length = k := by simp [placed]
theorem placed_prefix (l : List Int) (k n : Nat) (h : k ≤ n) : placed l k <+: placed l n := by
  obtain ⟨m, rfl⟩ : ∃ m, n = k + m := ⟨n - k, by omega⟩
  unfold placed
  rw [List.range_add, List.map_append]
  exact List.prefix_append _ _

set_option maxRecDepth 100000 in
set_option maxHeartbeats 2000000 in
/-- The closure. -/
theorem all1_in (F : Fence) (n : Nat) (hwide : F = Fence.wide) (l Bn n₀ : Nat) (p V D per : Nat) (vs : List Int) (ds : List Bool) (hp : p < n₀) (hV : V < n₀) (hBn0 : Bn < n₀) (J Jx : List (Nat × Int) → World → Prop)
    (hY : ∀ pre x W, J pre W → pre.length < vs.length → YieldAt F (n - 1) Try.prog l #[.int .i64 (x.1 : Int), .int .i64 x.2] W fun e W' =>
      (e = .returned (.bool true) ∧ J (pre ++ [x]) W' ∧ Below n₀ W W') ∨ (e = .returned (.bool false) ∧ Jx (pre ++ [x]) W'))
    (W : World) (hBn : W.cell? ⟨Bn, 0, none⟩ = some (.pointer (some ⟨p, 0, none⟩))) (hP : Pint W p V D per (vs.map I) ds) (h0 : J [] W) :
    CallsIn F n Try.prog 76 #[.func (.yield l) #[] #[], .pointer (some ⟨Bn, 0, none⟩)] W fun e W' => (∃ v, e = .returned v) ∧
      ((∃ ys, ys = placed vs vs.length ∧ J ys W') ∨ (∃ pre, pre <+: placed vs vs.length ∧ Jx pre W')) := by
  subst hwide
  have hm2 := hP.n2
  rw [List.length_map] at hm2
  have hl := hP
  have HP := hide hP
  have HY := hide hY
  have H0 := hide h0
  have HL : Hid (Calls Try.prog 37 #[.pointer (some ⟨p, 0, none⟩)] W fun e w' => e = .returned (.int .i64 vs.length) ∧ W = w') := hide (by have := len_int hP; rwa [List.length_map] at this)
  clear hP hY h0 hl
  refine callsIn_of_wp Try.func76 rfl trivial ?_ rfl
  simp only [Try.ntmps76, List.size_toArray, List.length_cons, List.length_nil, Nat.reduceAdd, Nat.reduceSub, Array.replicate_succ, Array.replicate_zero, List.push_toArray, List.append_toArray, List.nil_append, List.cons_append]
  gi_wp2_with (refine ⟨trivial, (by intro h; cases h), ?_⟩; gi_at_call 37; refine (callsIn_wide.2 HL.out).mono ?_; rintro e w' ⟨rfl, rfl⟩)
  gi_loopw [6] (fun i wr => ∃ k : Nat, k ≤ vs.length ∧ i = .int .i64 k ∧ Hid (J (placed vs k) wr) ∧ Hid (Below n₀ W wr)) (fun i _ => vs.length - (intOf i).toNat)
  case atStart => exact ⟨0, Nat.zero_le _, rfl, H0, hide (Below.refl _ _)⟩
  case round =>
    obtain ⟨k, hk, rfl, HJ, HB⟩ := hrel
    by_cases hlt : k < vs.length
    · have hc : wr.cell? ⟨Bn, 0, none⟩ = some (.pointer (some ⟨p, 0, none⟩)) := (HB.out.cell (p := ⟨Bn, 0, none⟩) hBn0).trans hBn
      have c0 : wr.cell? ⟨p, 0, none⟩ = some (.slice (some ⟨V, 0, none⟩) vs.length vs.length) := by have := (HB.out.cell (p := ⟨p, 0, none⟩) hp).trans HP.out.c0; rwa [List.length_map] at this
      obtain ⟨x, hx⟩ : ∃ x, vs[k]? = some x := ⟨_, List.getElem?_eq_getElem hlt⟩
      have cm : wr.cell? ⟨V, k, none⟩ = some (.int .i64 x) := (HB.out.cell (p := ⟨V, k, none⟩) hV).trans (HP.out.val (by rw [List.getElem?_map, hx]; rfl))
      have hk0 : (0 : Int) ≤ k := by omega
      have hk1 : (k : Int) < (vs.length : Int) := by omega
      have HN := hide (placed_succ vs k x hx)
      clear hx
      obtain ⟨fn, tmps, assign, body, hy, hR⟩ := HY.out _ (k, x) wr HJ.out (by rw [placed_length]; exact hlt)
      dsimp only at hy
      gi_wp2
      refine ⟨(by intro h; cases h), ?_⟩
      refine hR.mono ?_
      rintro e W3 (⟨rfl, hJ3, hk3⟩ | ⟨rfl, hJx3⟩)
      · have HJ3 := hide hJ3
        have HB3 := hide (HB.out.trans hk3)
        clear hJ3 hk3
        gi_wp2
        go_roundw
        case rel => exact ⟨k + 1, by omega, by go_num, by rw [HN.out]; exact HJ3, HB3⟩
        case measure => simp [intOf]; omega
      · have HJ3 := hide hJx3
        clear hJx3
        gi_wp2
        refine bodyPost_ret (results_none rfl _ _ _) rfl ?_
        exact ⟨⟨_, rfl⟩, .inr ⟨_, by rw [← HN.out]; exact placed_prefix vs _ _ hlt, HJ3.out⟩⟩
    · obtain rfl : k = vs.length := by omega
      gi_wp2
      go_end0
      exact ⟨⟨_, rfl⟩, .inl ⟨_, rfl, HJ.out⟩⟩

/-- All: the receiver is boxed; the function value holds the box. -/
theorem allOf_int (P : Option Addr) (w : World) :
    Calls Try.prog 67 #[.pointer P] w fun e w' => e = .returned (.func (.func 76) #[] #[.pointer (some ⟨w.heap.size, 0, none⟩)]) ∧ w' = w.alloc (.cells #[.pointer P] 57) := by
  have hmf : ∀ (fn : Fn) (first cap : Array Value) (w : World), (Instr.makeFunc fn first cap).run Try.prog w = .ok (.func fn first cap) w := fun _ _ _ _ => rfl
  go_enter Try.func67, Try.ntmps67
  go_wp2
  go_ret
  exact ⟨rfl, rfl⟩

theorem all_stops (n : Nat) (Bn n₀ : Nat) (p V D per : Nat) (vs : List Int) (ds : List Bool) (w : World) (hBn : Bn < n₀) (hn₀ : n₀ ≤ w.heap.size) (hc : w.cell? ⟨Bn, 0, none⟩ = some (.pointer (some ⟨p, 0, none⟩))) (hP : ∃ a : World, a.heap.size ≤ n₀ ∧ Below a.heap.size a w ∧ Pint a p V D per (vs.map I) ds) :
    SeqStopsK Fence.wide n Try.prog 76 #[.pointer (some ⟨Bn, 0, none⟩)] (fun x : Nat × Int => #[Value.int .i64 (x.1 : Int), Value.int .i64 x.2]) (Below n₀) (fun ys => ys = placed vs vs.length) (fun pre => pre <+: placed vs vs.length) vs.length w := fun l J Jx W hW _ _ hY h0 => by
  obtain ⟨a, ha, hb, hp⟩ := hP
  have hc' := (hW.cell (p := ⟨Bn, 0, none⟩) (Nat.lt_of_lt_of_le hBn hn₀)).trans hc
  have k : Below a.heap.size a W := hb.trans (hW.mono (Nat.le_trans ha hn₀))
  have hp' := hp.keep (Kept.of_below k [])
  exact all1_in Fence.wide n rfl l Bn n₀ p V D per vs ds (Nat.lt_of_lt_of_le hp.pl ha) (Nat.lt_of_lt_of_le hp.Vl ha) hBn J Jx hY W hc' hp' h0
end Go.Proofs.Ytfeepmahipecpaa.pd
