/- Package paged: Dirty, a walk over the marked pages. -/
import Derived.RangeFuncNested
import Derived.RangeFuncBound
import Derived.RangeFuncCalls
import Derived.RangeFuncLeaves
import Derived.Shelf.Abstract
import Derived.Shelf.RegionOpen
import Derived.WalkKit
import Derived.OwnWalkIn
import Derived.TacticsInMore
import Derived.LoopNIn
import Derived.LoopIn
import Derived.Test.YtfeepmahipecpaaPagedNewInt
namespace Go.Proofs.Ytfeepmahipecpaa.pd
set_option linter.unusedSimpArgs false
open Go.RowKit Go.Proofs.Ytfeepmahipecpaa.mem Go.Proofs.Ytfeepmahipecpaa.base

attribute [local go_sem] Oper.semAt_some

/-- The marked ones of the first so many pages. -/
def markedInt (ds : List Bool) (k : Nat) : List Int := ((List.range k).filter fun i => ds.getD i false).map fun i : Nat => (i : Int)

theorem markedInt_yes (ds : List Bool) (k : Nat) (h : ds[k]? = some true) : markedInt ds (k + 1) = markedInt ds k ++ [(k : Int)] := by simp [markedInt, List.range_succ, List.filter_append, h]
theorem markedInt_no (ds : List Bool) (k : Nat) (h : ds[k]? = some false) : markedInt ds (k + 1) = markedInt ds k := by simp [markedInt, List.range_succ, List.filter_append, h]
theorem markedInt_length (ds : List Bool) (k : Nat) : (markedInt ds k).length ≤ k := by
  unfold markedInt
  rw [List.length_map]
  exact Nat.le_trans (List.length_filter_le _ _) (by simp)
theorem markedInt_prefix (ds : List Bool) (k n : Nat) (h : k ≤ n) : markedInt ds k <+: markedInt ds n := by
  obtain ⟨m, rfl⟩ : ∃ m, n = k + m := ⟨n - k, by omega⟩
  unfold markedInt
  rw [List.range_add, List.filter_append, List.map_append]
  exact List.prefix_append _ _

set_option maxRecDepth 100000 in
set_option maxHeartbeats 2000000 in
/-- The closure. -/
theorem dirt1_int (F : Fence) (n : Nat) (hwide : F = Fence.wide) (l Bn n₀ : Nat) (p V D per : Nat) (vs : List Value) (ds : List Bool) (hp : p < n₀) (hD : D < n₀) (hBn0 : Bn < n₀) (J Jx : List Int → World → Prop)
    (hY : ∀ pre x W, J pre W → pre.length < ds.length → YieldAt F (n - 1) Try.prog l #[.int .i64 x] W fun e W' =>
      (e = .returned (.bool true) ∧ J (pre ++ [x]) W' ∧ Below n₀ W W') ∨ (e = .returned (.bool false) ∧ Jx (pre ++ [x]) W'))
    (W : World) (hBn : W.cell? ⟨Bn, 0, none⟩ = some (.pointer (some ⟨p, 0, none⟩))) (hP : Pint W p V D per vs ds) (h0 : J [] W) :
    CallsIn F n Try.prog 79 #[.func (.yield l) #[] #[], .pointer (some ⟨Bn, 0, none⟩)] W fun e W' => (∃ v, e = .returned v) ∧
      ((∃ ys, ys = markedInt ds ds.length ∧ J ys W') ∨ (∃ pre, pre <+: markedInt ds ds.length ∧ Jx pre W')) := by
  subst hwide
  have HP := hide hP
  have HY := hide hY
  have H0 := hide h0
  have hm2 := hP.m2
  clear hP hY h0
  refine callsIn_of_wp Try.func79 rfl trivial ?_ rfl
  simp only [Try.ntmps79, List.size_toArray, List.length_cons, List.length_nil, Nat.reduceAdd, Nat.reduceSub, Array.replicate_succ, Array.replicate_zero, List.push_toArray, List.append_toArray, List.nil_append, List.cons_append]
  gi_wp2_with (refine ⟨trivial, (by intro h; cases h), ?_⟩; gi_at_call 78; refine (callsIn_wide.2 (pages_int HP.out)).mono ?_; rintro e w' ⟨rfl, rfl⟩)
  gi_loopw [6] (fun i wr => ∃ k : Nat, k ≤ ds.length ∧ i = .int .i64 k ∧ Hid (J (markedInt ds k) wr) ∧ Hid (Below n₀ W wr)) (fun i _ => ds.length - (intOf i).toNat)
  case atStart => exact ⟨0, Nat.zero_le _, rfl, H0, hide (Below.refl _ _)⟩
  case round =>
    obtain ⟨k, hk, rfl, HJ, HB⟩ := hrel
    by_cases hlt : k < ds.length
    · have hc : wr.cell? ⟨Bn, 0, none⟩ = some (.pointer (some ⟨p, 0, none⟩)) := (HB.out.cell (p := ⟨Bn, 0, none⟩) hBn0).trans hBn
      have c2 : wr.cell? ⟨p, 2, none⟩ = some (.slice (some ⟨D, 0, none⟩) ds.length ds.length) := (HB.out.cell (p := ⟨p, 2, none⟩) hp).trans HP.out.c2
      obtain ⟨b, hb⟩ : ∃ b, ds[k]? = some b := ⟨_, List.getElem?_eq_getElem hlt⟩
      have cm : wr.cell? ⟨D, k, none⟩ = some (.bool b) := (HB.out.cell (p := ⟨D, k, none⟩) hD).trans (HP.out.mark hb)
      have hk0 : (0 : Int) ≤ k := by omega
      have hk1 : (k : Int) < (ds.length : Int) := by omega
      cases b with
      | false =>
        have HN := hide (markedInt_no ds k hb)
        clear hb
        gi_wp2
        refine ⟨fun _ h => (by cases h), ?_⟩
        gi_wp2
        go_roundw
        case rel => exact ⟨k + 1, by omega, by go_num, by rw [HN.out]; exact HJ, HB⟩
        case measure => simp [intOf]; omega
      | true =>
        have HN := hide (markedInt_yes ds k hb)
        clear hb
        obtain ⟨fn, tmps, assign, body, hy, hR⟩ := HY.out _ (k : Int) wr HJ.out (Nat.lt_of_le_of_lt (markedInt_length ds k) hlt)
        gi_wp2
        refine ⟨(by intro h; cases h), ?_⟩
        refine hR.mono ?_
        rintro e W3 (⟨rfl, hJ3, hk3⟩ | ⟨rfl, hJx3⟩)
        · have HJ3 := hide hJ3
          have HB3 := hide (HB.out.trans hk3)
          clear hJ3 hk3
          gi_wp2
          go_roundw
          case rel => exact ⟨k + 1, by omega, by go_num, by rw [HN.out]; exact HJ3, HB3⟩
          case measure => simp [intOf]; omega
        · have HJ3 := hide hJx3
          clear hJx3
          gi_wp2
          refine bodyPost_ret (results_none rfl _ _ _) rfl ?_
          exact ⟨⟨_, rfl⟩, .inr ⟨_, by rw [← HN.out]; exact markedInt_prefix ds _ _ hlt, HJ3.out⟩⟩
    · obtain rfl : k = ds.length := by omega
      gi_wp2
      go_end0
      exact ⟨⟨_, rfl⟩, .inl ⟨_, rfl, HJ.out⟩⟩

set_option maxRecDepth 100000 in
set_option maxHeartbeats 1000000 in
/-- .. of no table: no round. -/
theorem dirt1_int_nil (F : Fence) (n : Nat) (hwide : F = Fence.wide) (l Bn : Nat) (J : List Int → World → Prop)
    (W : World) (hBn : W.cell? ⟨Bn, 0, none⟩ = some (.pointer none)) (h0 : J [] W) :
    CallsIn F n Try.prog 79 #[.func (.yield l) #[] #[], .pointer (some ⟨Bn, 0, none⟩)] W fun e W' => (∃ v, e = .returned v) ∧ J [] W' := by
  subst hwide
  have H0 := hide h0
  clear h0
  refine callsIn_of_wp Try.func79 rfl trivial ?_ rfl
  simp only [Try.ntmps79, List.size_toArray, List.length_cons, List.length_nil, Nat.reduceAdd, Nat.reduceSub, Array.replicate_succ, Array.replicate_zero, List.push_toArray, List.append_toArray, List.nil_append, List.cons_append]
  gi_wp2_with (refine ⟨trivial, (by intro h; cases h), ?_⟩; gi_at_call 78; refine (callsIn_wide.2 (pages_int_nil _)).mono ?_; rintro e w' ⟨rfl, rfl⟩)
  gi_loopw [6] (fun i wr => i = .int .i64 0 ∧ Hid (J [] wr)) (fun _ _ => 0)
  case atStart => exact ⟨rfl, H0⟩
  case round =>
    obtain ⟨rfl, HJ⟩ := hrel
    gi_wp2
    go_end0
    exact ⟨⟨_, rfl⟩, HJ.out⟩

/-- Dirty: the receiver is boxed; the function value holds the box. -/
theorem dirt_int (P : Option Addr) (w : World) :
    Calls Try.prog 74 #[.pointer P] w fun e w' => e = .returned (.func (.func 79) #[] #[.pointer (some ⟨w.heap.size, 0, none⟩)]) ∧ w' = w.alloc (.cells #[.pointer P] 57) := by
  have hmf : ∀ (fn : Fn) (first cap : Array Value) (w : World), (Instr.makeFunc fn first cap).run Try.prog w = .ok (.func fn first cap) w := fun _ _ _ _ => rfl
  go_enter Try.func74, Try.ntmps74
  go_wp2
  go_ret
  exact ⟨rfl, rfl⟩

/-- What a table's walk tells: a table at P, or none. -/
def IsPInt (w : World) (P : Option Addr) (ds : List Bool) : Prop :=
  (P = none ∧ ds = []) ∨ ∃ p V D per vs, P = some ⟨p, 0, none⟩ ∧ Pint w p V D per vs ds

theorem dirt_int_stops (n : Nat) (Bn n₀ : Nat) (P : Option Addr) (ds : List Bool) (w : World) (hBn : Bn < n₀) (hn₀ : n₀ ≤ w.heap.size) (hc : w.cell? ⟨Bn, 0, none⟩ = some (.pointer P)) (hP : ∃ a : World, a.heap.size ≤ n₀ ∧ Below a.heap.size a w ∧ IsPInt a P ds) :
    SeqStopsK Fence.wide n Try.prog 79 #[.pointer (some ⟨Bn, 0, none⟩)] (fun x : Int => #[Value.int .i64 x]) (Below n₀) (fun ys => ys = markedInt ds ds.length) (fun pre => pre <+: markedInt ds ds.length) ds.length w := fun l J Jx W hW _ _ hY h0 => by
  obtain ⟨a, ha, hb, hI⟩ := hP
  have hc' := (hW.cell (p := ⟨Bn, 0, none⟩) (Nat.lt_of_lt_of_le hBn hn₀)).trans hc
  rcases hI with ⟨rfl, rfl⟩ | ⟨p, V, D, per, vs, rfl, hp⟩
  · exact (dirt1_int_nil Fence.wide n rfl l Bn J W hc' h0).mono fun e W' ⟨he, hj⟩ => ⟨he, .inl ⟨[], rfl, hj⟩⟩
  · have k : Below a.heap.size a W := hb.trans (hW.mono (Nat.le_trans ha hn₀))
    have hp' := hp.keep (Kept.of_below k [])
    exact dirt1_int Fence.wide n rfl l Bn n₀ p V D per vs ds (Nat.lt_of_lt_of_le hp.pl ha) (Nat.lt_of_lt_of_le hp.Dl ha) hBn J Jx hY W hc' hp' h0
end Go.Proofs.Ytfeepmahipecpaa.pd
