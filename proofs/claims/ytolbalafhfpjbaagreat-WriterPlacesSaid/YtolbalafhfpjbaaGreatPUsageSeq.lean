import Derived.Test.YtolbalafhfpjbaaGreatPUsageIter
namespace Go.Proofs.YtolbalafhfpjbaaGreat.us
set_option linter.unusedSimpArgs false
open Go.RowKit mem base geom
attribute [local go_sem] Oper.semAt_some
set_option maxRecDepth 100000 in
set_option maxHeartbeats 1000000 in
theorem in1_nil (F : Fence) (n : Nat) (hwide : F = Fence.wide) (lp Bt Bs : Nat) (J : List Int → World → Prop)
  (W : World) (hBn : W.cell? ⟨Bt, 0, none⟩ = some (.pointer none)) (h0 : J [] W) :
  CallsIn F n Tryz.prog 180 #[.func (.yield lp) #[] #[], .pointer (some ⟨Bt, 0, none⟩), .pointer (some ⟨Bs, 0, none⟩)] W fun e W' => (∃ v, e = .returned v) ∧ J [] W' := by
 subst hwide
 have H0 := hide h0
 clear h0
 refine callsIn_of_wp Tryz.func180 rfl trivial ?_ rfl
 simp only [Tryz.ntmps180, List.size_toArray, List.length_cons, List.length_nil, Nat.reduceAdd, Nat.reduceSub, Array.replicate_succ, Array.replicate_zero, List.push_toArray, List.append_toArray, List.nil_append, List.cons_append]
 gi_wp2_with (refine ⟨trivial, (by intro h; cases h), ?_⟩; gi_at_call 178; refine (callsIn_wide.2 (count_nil _)).mono ?_; rintro e w' ⟨rfl, rfl⟩)
 gi_loopw [7] (fun i wr => i = .int .i64 0 ∧ Hid (J [] wr)) (fun _ _ => 0)
 case atStart => exact ⟨rfl, H0⟩
 case round =>
  obtain ⟨rfl, HJ⟩ := hrel
  gi_wp2
  go_end0
  exact ⟨⟨_, rfl⟩, HJ.out⟩
theorem in_any (P : Option Addr) (st : Int) (w : World) :
  Calls Tryz.prog 128 #[.pointer P, .int .i64 st] w fun e w' => e = .returned (.func (.func 180) #[] #[.pointer (some ⟨w.heap.size, 0, none⟩), .pointer (some ⟨w.heap.size + 1, 0, none⟩)]) ∧ w' = (w.alloc (.cells #[.pointer P] 77)).alloc (.cells #[.int .i64 st] 3) := by
 have hmf : ∀ (fn : Fn) (first cap : Array Value) (w : World), (Instr.makeFunc fn first cap).run Tryz.prog w = .ok (.func fn first cap) w := fun _ _ _ _ => rfl
 go_enter Tryz.func128, Tryz.ntmps128
 go_wp2
 go_ret
 exact ⟨by simp, rfl⟩
def IsT (w : World) (P : Option Addr) (rs : List Rw) : Prop :=
 (P = none ∧ rs = []) ∨ ∃ p V b s l r q, P = some ⟨p, 0, none⟩ ∧ TAt w p V b s l r q rs

theorem in1_stops (n : Nat) (Bt Bs n₀ : Nat) (P : Option Addr) (st : Int) (rs : List Rw) (w : World) (hBt : Bt < n₀) (hBs : Bs < n₀) (hn₀ : n₀ ≤ w.heap.size) (hc : w.cell? ⟨Bt, 0, none⟩ = some (.pointer P)) (hs : w.cell? ⟨Bs, 0, none⟩ = some (.int .i64 st)) (hP : ∃ a : World, a.heap.size ≤ n₀ ∧ Below a.heap.size a w ∧ IsT a P rs) :
  SeqStopsK Fence.wide n Tryz.prog 180 #[.pointer (some ⟨Bt, 0, none⟩), .pointer (some ⟨Bs, 0, none⟩)] (fun x : Int => #[Value.int .i64 x]) (Below n₀) (fun ys => ys = inState rs st rs.length) (fun pre => pre <+: inState rs st rs.length) rs.length w := fun lp J Jx W hW hJ _ hY h0 => by
 obtain ⟨a, ha, hb, hI⟩ := hP
 have hc' := (hW.cell (p := ⟨Bt, 0, none⟩) (Nat.lt_of_lt_of_le hBt hn₀)).trans hc
 have hs' := (hW.cell (p := ⟨Bs, 0, none⟩) (Nat.lt_of_lt_of_le hBs hn₀)).trans hs
 rcases hI with ⟨rfl, rfl⟩ | ⟨p, V, b, s, l, r, q, rfl, hp⟩
 ·exact (in1_nil Fence.wide n rfl lp Bt Bs J W hc' h0).mono fun e W' ⟨he, hj⟩ => ⟨he, .inl ⟨[], rfl, hj⟩⟩
 ·have k : Below a.heap.size a W := hb.trans (hW.mono (Nat.le_trans ha hn₀))
  have hd : ∀ pre (W1 : World) (m : Nat), J pre W1 ∧ Below n₀ W W1 → J pre (W1.drewN m) ∧ Below n₀ W (W1.drewN m) := fun pre W1 m h =>
   ⟨hJ pre W1 _ none h.1 ⟨rfl, rfl, rfl, Nat.le_refl _, fun _ _ _ => rfl⟩ (fun r e => by cases e), below_drewN h.2 m⟩
  refine (in1_any Fence.wide n rfl lp Bt Bs p V b s l r q st rs (fun pre W1 => J pre W1 ∧ Below n₀ W W1) Jx (fun pre W1 h => ?_) hd (fun pre k x W1 h _ _ _ hl => ?_) W ⟨h0, Below.refl _ _⟩).mono ?_
  ·refine ⟨(h.2.cell (p := ⟨Bt, 0, none⟩) hBt).trans hc', (h.2.cell (p := ⟨Bs, 0, none⟩) hBs).trans hs', rs, rfl, fun _ _ => rfl, hp.keep (Kept.of_below (k.trans (h.2.mono ha)) [])⟩
  ·refine (hY pre (k : Int) W1 h.1 hl).mono ?_
   rintro e W' (⟨rfl, hj, hk⟩ | ⟨rfl, hj⟩)
   ·exact .inl ⟨rfl, hj, h.2.trans hk⟩
   ·exact .inr ⟨rfl, hj⟩
  ·rintro e W' ⟨hv, (hj | ⟨pre, hp, hj⟩)⟩
   ·exact ⟨hv, .inl ⟨_, rfl, hj.1⟩⟩
   ·exact ⟨hv, .inr ⟨pre, hp, hj⟩⟩
end Go.Proofs.YtolbalafhfpjbaaGreat.us
