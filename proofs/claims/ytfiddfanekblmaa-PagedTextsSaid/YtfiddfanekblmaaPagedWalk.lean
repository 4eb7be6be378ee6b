/- Package paged: Dirty of a table of texts, for a body that writes what was laid before the walk. -/
import Derived.Test.YtfiddfanekblmaaPagedDirtStr
namespace Go.Proofs.Ytfiddfanekblmaa.pd
set_option linter.unusedSimpArgs false
open Go.RowKit Go.Proofs.Ytfiddfanekblmaa.mem Go.Proofs.Ytfiddfanekblmaa.base

attribute [local go_sem] Oper.semAt_some

/-- These blocks lie as they lay. -/
def Same (S : List Nat) (W W' : World) : Prop := ∀ k ∈ S, W'.heap[k]? = W.heap[k]?
theorem Same.refl (S : List Nat) (W : World) : Same S W W := fun _ _ => rfl
theorem Same.trans {S : List Nat} {A B C : World} (h : Same S A B) (k : Same S B C) : Same S A C := fun i hi => (k i hi).trans (h i hi)
theorem Same.cell {S : List Nat} {W W' : World} (h : Same S W W') {a : Addr} (ha : a.block ∈ S) : W'.cell? a = W.cell? a := World.cell?_of_block (h a.block ha)
theorem same_b {S : List Nat} {w : World} (hS : ∀ k ∈ S, k < w.heap.size) (W : World) (l : Nat) (o o' : Obj) (hl : w.heap.size ≤ l) (_ : W.heap[l]? = some o) (_ : o.isCells = false) (_ : o.isWalk = false) : Same S W (W.putObj l o') :=
  fun k hk => World.putObj_heap_other (by have := hS k hk; omega)

set_option maxRecDepth 100000 in
set_option maxHeartbeats 2000000 in
/-- The closure. -/
theorem walk1_str (F : Fence) (n : Nat) (hwide : F = Fence.wide) (l Bn : Nat) (p V D per : Nat) (vs : List Value) (ds : List Bool) (J Jx : List Int → World → Prop)
    (hY : ∀ pre x W, J pre W → pre.length < ds.length → YieldAt F (n - 1) Try.prog l #[.int .i64 x] W fun e W' =>
      (e = .returned (.bool true) ∧ J (pre ++ [x]) W' ∧ Same [p, D, Bn] W W') ∨ (e = .returned (.bool false) ∧ Jx (pre ++ [x]) W'))
    (W : World) (hBn : W.cell? ⟨Bn, 0, none⟩ = some (.pointer (some ⟨p, 0, none⟩))) (hP : Pstr W p V D per vs ds) (h0 : J [] W) :
    CallsIn F n Try.prog 40 #[.func (.yield l) #[] #[], .pointer (some ⟨Bn, 0, none⟩)] W fun e W' => (∃ v, e = .returned v) ∧
      ((∃ ys, ys = markedStr ds ds.length ∧ J ys W') ∨ (∃ pre, pre <+: markedStr ds ds.length ∧ Jx pre W')) := by
  subst hwide
  have HP := hide hP
  have HY := hide hY
  have H0 := hide h0
  have hm2 := hP.m2
  clear hP hY h0
  refine callsIn_of_wp Try.func40 rfl trivial ?_ rfl
  simp only [Try.ntmps40, List.size_toArray, List.length_cons, List.length_nil, Nat.reduceAdd, Nat.reduceSub, Array.replicate_succ, Array.replicate_zero, List.push_toArray, List.append_toArray, List.nil_append, List.cons_append]
  gi_wp2_with (refine ⟨trivial, (by intro h; cases h), ?_⟩; gi_at_call 41; refine (callsIn_wide.2 (pages_str HP.out)).mono ?_; rintro e w' ⟨rfl, rfl⟩)
  gi_loopw [6] (fun i wr => ∃ k : Nat, k ≤ ds.length ∧ i = .int .i64 k ∧ Hid (J (markedStr ds k) wr) ∧ Hid (Same [p, D, Bn] W wr)) (fun i _ => ds.length - (intOf i).toNat)
  case atStart => exact ⟨0, Nat.zero_le _, rfl, H0, hide (Same.refl _ _)⟩
  case round =>
    obtain ⟨k, hk, rfl, HJ, HB⟩ := hrel
    by_cases hlt : k < ds.length
    · have hc : wr.cell? ⟨Bn, 0, none⟩ = some (.pointer (some ⟨p, 0, none⟩)) := (HB.out.cell (a := ⟨Bn, 0, none⟩) (by simp)).trans hBn
      have c2 : wr.cell? ⟨p, 2, none⟩ = some (.slice (some ⟨D, 0, none⟩) ds.length ds.length) := (HB.out.cell (a := ⟨p, 2, none⟩) (by simp)).trans HP.out.c2
      obtain ⟨b, hb⟩ : ∃ b, ds[k]? = some b := ⟨_, List.getElem?_eq_getElem hlt⟩
      have cm : wr.cell? ⟨D, k, none⟩ = some (.bool b) := (HB.out.cell (a := ⟨D, k, none⟩) (by simp)).trans (HP.out.mark hb)
      have hk0 : (0 : Int) ≤ k := by omega
      have hk1 : (k : Int) < (ds.length : Int) := by omega
      cases b with
      | false =>
        have HN := hide (markedStr_no ds k hb)
        clear hb
        gi_wp2
        refine ⟨fun _ h => (by cases h), ?_⟩
        gi_wp2
        go_roundw
        case rel => exact ⟨k + 1, by omega, by go_num, by rw [HN.out]; exact HJ, HB⟩
        case measure => simp [intOf]; omega
      | true =>
        have HN := hide (markedStr_yes ds k hb)
        clear hb
        obtain ⟨fn, tmps, assign, body, hy, hR⟩ := HY.out _ (k : Int) wr HJ.out (Nat.lt_of_le_of_lt (markedStr_length ds k) hlt)
        gi_wp2
        refine ⟨(by intro h; cases h), ?_⟩
        refine hR.mono ?_
        rintro e W3 (⟨rfl, hJ3, hk3⟩ | ⟨rfl, hJx3⟩)
        · have HJ3 := hide hJ3
          have HB3 := hide (HB.out.trans hk3)
          clear hJ3 hk3
          gi_wp2
          go_roundw
          case rel => exact ⟨k + 1, by omega, by go_num, by rw [HN.out]; exact HJ3, HB3⟩
          case measure => simp [intOf]; omega
        · have HJ3 := hide hJx3
          clear hJx3
          gi_wp2
          refine bodyPost_ret (results_none rfl _ _ _) rfl ?_
          exact ⟨⟨_, rfl⟩, .inr ⟨_, by rw [← HN.out]; exact markedStr_prefix ds _ _ hlt, HJ3.out⟩⟩
    · obtain rfl : k = ds.length := by omega
      gi_wp2
      go_end0
      exact ⟨⟨_, rfl⟩, .inl ⟨_, rfl, HJ.out⟩⟩

theorem walk_stops (n : Nat) (Bn : Nat) (p V D per : Nat) (vs : List Value) (ds : List Bool) (w : World) (hBn : Bn < w.heap.size) (hc : w.cell? ⟨Bn, 0, none⟩ = some (.pointer (some ⟨p, 0, none⟩))) (hP : Pstr w p V D per vs ds) :
    SeqStopsK Fence.wide n Try.prog 40 #[.pointer (some ⟨Bn, 0, none⟩)] (fun x : Int => #[Value.int .i64 x]) (Same [p, D, Bn]) (fun ys => ys = markedStr ds ds.length) (fun pre => pre <+: markedStr ds ds.length) ds.length w := fun l J Jx W hW _ _ hY h0 => by
  have hc' := (hW.cell (p := ⟨Bn, 0, none⟩) hBn).trans hc
  exact walk1_str Fence.wide n rfl l Bn p V D per vs ds J Jx hY W hc' (hP.keep (Kept.of_below hW [])) h0
end Go.Proofs.Ytfiddfanekblmaa.pd
