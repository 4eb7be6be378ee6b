import Derived.Test.YtolbalafhfpjbaaGreatPWriterNew
import Derived.Test.YtolbalafhfpjbaaGreatPHeadCore
import Derived.Test.YtolbalafhfpjbaaGreatPRoundHeld
import Derived.RangeFuncNested
import Derived.RangeFuncBound
import Derived.RangeFuncCalls
import Derived.RangeFuncLeaves
set_option linter.unusedSimpArgs false
set_option linter.unusedVariables false
set_option maxRecDepth 100000
namespace Go.Proofs.YtolbalafhfpjbaaGreat.wr
open Go.RowKit mem base disk owns geom
open sc (Ps Seal sealed)
open us (Rw inState TAt)
open item (It)
open record (cell5)
def headAt (x : Ps) : hd.Hd := ⟨x.s, x.m, x.l, x.v⟩
theorem begin_any (v d g tp n c m e : Nat) (p x : Ps) (A H : Option Addr) (b s l r q : Int) (F : List Nat) (D : Dk) (w : World) (h : WAt w v d g tp p A n c H m e) (hg : GAt w g b s l r q) (hv : VD w F d D) (hvF : v ∉ F) (hx : 0 ≤ x.s ∧ x.s ≤ s - 1) (ha : D.acts < 1000000) :
  Calls Tryz.prog 111 #[.pointer (some ⟨v, 0, none⟩), x.val] w fun e' w' => e' = .returned (.int .i64 (D.write (2 + 2 * r + 4 * q + x.s * l) (hd.encode (headAt x)).1).1) ∧ Turned w w' F d (D.write (2 + 2 * r + 4 * q + x.s * l) (hd.encode (headAt x)).1).2 := by
 obtain ⟨z, hz⟩ : ∃ z, w.heap.size = z := ⟨_, rfl⟩
 obtain ⟨w0, hw0⟩ : ∃ w0, w.alloc (.cells #[.int .i64 x.s, .int .i64 x.o, .int .i64 x.l, .int .i64 x.v, .int .i64 x.m] 24) = w0 := ⟨_, rfl⟩
 have hk0 : Kept [] w w0 := by rw [← hw0]; exact (Kept.refl [] w).alloc _
 have hb0 : Blk w0 z 24 #[.int .i64 x.s, .int .i64 x.o, .int .i64 x.l, .int .i64 x.v, .int .i64 x.m] := by rw [← hw0, ← hz]; exact Blk.new w _ _
 have HW := hide (h.keep hk0)
 have HG := hide (hg.kept hk0)
 have HV := hide (hv.kept hk0 (by simp))
 have HB := hide hb0
 have HK := hide hk0
 have HX := hide hx
 have HA := hide ha
 have HLT := hide hv.lt
 have hzF : z ∉ F := fun hm => by have := hv.lt z hm; omega
 have HZF := hide hzF
 have HVF := hide hvF
 obtain ⟨i0, i1, i2, i3, i4⟩ := cell5 hb0
 have hHd : (headAt x).val = .agg #[.int .i64 x.s, .int .i64 x.m, .int .i64 x.l, .int .i64 x.v] := rfl
 have HE := hide (fun W => hd.encode_any (headAt x) W)
 rw [hHd] at HE
 clear hk0 h hg hv hb0 hx ha hzF hvF hHd
 unfold Ps.val
 go_enter Tryz.func111, Tryz.ntmps111
 go_wp2_with fail
 refine (HE.out _).mono ?_
 rintro e1 w1 ⟨P, k, ck, rfl, hk, hnb, hk1⟩
 have hvals := hnb.vals (S := F) (fun i hi => by have := HV.out.lt i hi; exact this)
 have HVA := hide hvals
 have HKL := hide hk
 have HW1 := hide (HW.out.keep hk1)
 have HG1 := hide (HG.out.kept hk1)
 have HV1 := hide (HV.out.kept hk1 (by simp))
 have HB1 := hide (hk1.blk HB.out (by simp))
 have HK1 := hide (HK.out.trans hk1 (by simp))
 have HALL := hide (show ∀ W, Kept F w1 W → (fun W => (W.cell? ⟨v, 0, none⟩ = some (.pointer (some ⟨d, 0, none⟩)) ∧ W.cell? ⟨v, 1, none⟩ = some (.pointer (some ⟨g, 0, none⟩))) ∧ W.cell? ⟨z, 0, none⟩ = some (.int .i64 x.s)) W from fun W k => ⟨⟨(HW1.out.kept k HVF.out).ptr.1, (HW1.out.kept k HVF.out).ptr.2.1⟩, (k.blk HB1.out HZF.out).cell 0⟩)
 clear hvals hk hnb hk1 HW HG HV HB HK i0 i1 i2 i3 i4 HE
 have HD0 := hide ((Kept.refl [] w1).drew)
 go_wp2
 refine wp_region_noPanic ?_
 refine wp_region_held_drew (S := fun W => (W.cell? ⟨v, 0, none⟩ = some (.pointer (some ⟨d, 0, none⟩)) ∧ W.cell? ⟨v, 1, none⟩ = some (.pointer (some ⟨g, 0, none⟩))) ∧ W.cell? ⟨z, 0, none⟩ = some (.int .i64 x.s)) (by kernel_rfl) (by exact HALL.out _ (HD0.out.mono (by simp))) (fun hHeld => ?_)
 refine tK 0 20 rfl ?_
 try simp only [Act.put, pA, pB, pC]
 refine tK 1 21 rfl ?_
 try simp only [Act.put, pA, pB, pC]
 refine tK 2 22 rfl ?_
 try simp only [Act.put, pA, pB, pC]
 refine tK 3 23 rfl ?_
 try simp only [Act.put, pA, pB, pC]
 refine tK 4 24 rfl ?_
 try simp only [Act.put, pA, pB, pC]
 refine tK 5 25 rfl ?_
 try simp only [Act.put, pA, pB, pC]
 refine tK 6 26 rfl ?_
 try simp only [Act.put, pA, pB, pC]
 refine tK 7 27 rfl ?_
 try simp only [Act.put, pA, pB, pC]
 refine tK 8 28 rfl ?_
 try simp only [Act.put, pA, pB, pC]
 refine tK 9 29 rfl ?_
 try simp only [Act.put, pA, pB, pC]
 refine tK 11 31 rfl ?_
 try simp only [Act.put, pA, pB, pC]
 refine hO 10 (some 30) rfl fun K hK => ?_
 (generalize w1.drew = wd at HD0 hHeld ⊢)
 go_simp
 refine (seg_any g b s l r q x.s _ (HG1.out.kept HD0.out)).mono ?_
 rintro e1 w2 ⟨rfl, hk2⟩
 rw [segIn HX.out]
 have H2 := hide (HD0.out.trans hk2 (by simp))
 refine hK.out _ _ (by exact HALL.out _ (H2.out.mono (by simp))) (fun hHeld => ?_)
 clear hK K
 try simp only [Act.put, pA, pB, pC]
 refine hO 12 (some 32) rfl fun K hK => ?_
 go_simp
 refine (write_at d F D (2 + 2 * r + 4 * q + x.s * l) P k ck (hd.encode (headAt x)).1 _ (HV1.out.kept H2.out (by simp)) HA.out (HVA.out.kept H2.out (by simp)) HKL.out.symm).mono ?_
 rintro e1 w3 ⟨rfl, F3, ht1, ht2, ht3⟩
 have H3 := hide ht1
 have H4 := hide ht2
 have H5 := hide ((H2.out.mono (S' := F) (by simp)).trans ht3 (fun i hi => .inl hi))
 clear ht1 ht2 ht3
 refine hK.out _ _ (by exact HALL.out _ H5.out) (fun hHeld => ?_)
 clear hK K
 try simp only [Act.put, pA, pB, pC]
 refine tK 13 4 rfl ?_
 try simp only [Act.put, pA, pB, pC]
 refine wpAnyH_done (by kernel_rfl) ?_ _
 refine NoPanic.normal ?_
 go_wp2
 go_ret
 refine ⟨rfl, F3, H3.out, fun i hi => (H4.out i hi).imp id (fun hh => ?_), (HK1.out.mono (S' := F) (by simp)).trans H5.out (fun i hi => .inl hi)⟩
 have h1 := HK1.out.size
 have h2 := H2.out.size
 omega
end Go.Proofs.YtolbalafhfpjbaaGreat.wr

namespace Go.Proofs.YtolbalafhfpjbaaGreat.wr
open Go.RowKit mem base disk owns
attribute [local go_sem] Oper.semAt_some
set_option maxHeartbeats 2000000 in
theorem chunk1_any (n : Nat) (lp Bt Bn : Nat) (ad : Addr) (A : Option Addr) (c K : Nat) (hA : 0 < K → A = some ad) (hc : 64 * K ≤ c) (hK : K ≤ 1000) (J Jx : Nat → World → Prop)
  (hI : ∀ k W, J k W → W.cell? ⟨Bt, 0, none⟩ = some (.slice A (64 * K) c) ∧ W.cell? ⟨Bn, 0, none⟩ = some (.int .i64 64)) (hJd : ∀ k W m, J k W → J k (W.drewN m))
  (hY : ∀ k W, J k W → k < K → YieldAt Fence.wide (n - 1) Tryz.prog lp #[.slice (some (ad.add (64 * k))) 64 64] W fun e W' => (e = .returned (.bool true) ∧ J (k + 1) W') ∨ (e = .returned (.bool false) ∧ Jx (k + 1) W'))
  (W : World) (h0 : J 0 W) :
  CallsIn Fence.wide n Tryz.prog 210 #[.func (.yield lp) #[] #[], .pointer (some ⟨Bt, 0, none⟩), .pointer (some ⟨Bn, 0, none⟩)] W fun e W' => (∃ v, e = .returned v) ∧ (J K W' ∨ ∃ k, k ≤ K ∧ Jx k W') := by
 have HI := hide hI
 have HJD := hide hJd
 have HY := hide hY
 have H0 := hide h0
 have HA := hide hA
 clear hI hJd hY h0 hA
 refine callsIn_of_wp Tryz.func210 rfl trivial ?_ rfl
 simp only [Tryz.ntmps210, List.size_toArray, List.length_cons, List.length_nil, Nat.reduceAdd, Nat.reduceSub, Array.replicate_succ, Array.replicate_zero, List.push_toArray, List.append_toArray, List.nil_append, List.cons_append]
 gi_wp2
 gi_loopw [4] (fun i wr => ∃ k : Nat, k ≤ K ∧ i = .int .i64 ((64 * k : Nat) : Int) ∧ Hid (J k wr)) (fun i _ => 64 * K - (intOf i).toNat)
 case atStart => exact ⟨0, Nat.zero_le _, rfl, H0⟩
 case round =>
  obtain ⟨k, hk, rfl, HJ⟩ := hrel
  obtain ⟨c1, c2⟩ := HI.out _ _ HJ.out
  by_cases hlt : k < K
  ·have hAd := HA.out (by omega)
   subst hAd
   have HJ1 := hide (HJD.out _ _ 1 HJ.out)
   obtain ⟨d1, d2⟩ := HI.out _ _ HJ1.out
   obtain ⟨fn, tmps, assign, body, hy, hR⟩ := HY.out k wr.drew HJ1.out hlt
   have hR2 : RoundIn Fence.wide (n - 1) Tryz.prog lp fn tmps assign body wr.drew fun e W' => ∃ bb, e = .returned (.bool bb) ∧ ((bb = true ∧ J (k + 1) W') ∨ (bb = false ∧ Jx (k + 1) W')) := hR.mono (by
    rintro e W3 (⟨rfl, hJ3⟩ | ⟨rfl, hJx3⟩)
    ·exact ⟨_, rfl, .inl ⟨rfl, hJ3⟩⟩
    ·exact ⟨_, rfl, .inr ⟨rfl, hJx3⟩⟩)
   clear hR
   have e1 : decide (((64 * k : Nat) : Int) < ((64 * K : Nat) : Int)) = true := decide_eq_true (by omega)
   gi_wp2
   have f1 : (0 : Int) ≤ 64 * (k : Int) := by omega
   have f2 : (64 * (k : Int)).toNat = 64 * k := by omega
   have f3 : ¬ c = 64 * k := by omega
   have f4 : 64 * K - 64 * k = 64 * (K - k) := by omega
   have f5 : ¬ ((64 * (K - k) : Nat) : Int) < 64 := by omega
   refine (wpIn_wide (n := n)).2 ?_
   refine wp_region_noPanic ?_
   refine wp_region_held_drew (S := fun W => W.cell? ⟨Bt, 0, none⟩ = some (.slice (some ad) (64 * K) c) ∧ W.cell? ⟨Bn, 0, none⟩ = some (.int .i64 64)) (by kernel_rfl) (by exact ⟨d1, d2⟩) (fun hHeld => ?_)
   refine tK 0 13 rfl ?_
   try simp only [Act.put, pA, pB, pC]
   refine tK 1 14 rfl ?_
   try simp only [Act.put, pA, pB, pC]
   refine tK 2 15 rfl ?_
   try simp only [Act.put, pA, pB, pC]
   refine tK 3 16 rfl ?_
   try simp only [Act.put, pA, pB, pC]
   refine tK 4 17 rfl ?_
   try simp only [Act.put, pA, pB, pC]
   refine tK 5 18 rfl ?_
   try simp only [Act.put, pA, pB, pC]
   refine tK 6 5 rfl ?_
   try simp only [Act.put, pA, pB, pC]
   refine wpAnyH_done (by kernel_rfl) ?_ _
   refine NoPanic.normal ?_
   rw [show (if 64 * ((K - k : Nat) : Int) < 64 then 64 * ((K - k : Nat) : Int) else 64) = 64 from if_neg (by omega)]
   have g1 : IntKind.i64.wrap (64 * (k : Int) + 64) = 64 * (k : Int) + 64 := IntWalk.i64_in _ (by omega)
   have g2 : (64 * (k : Int) + 64).toNat = 64 * k + 64 := by omega
   have g3 : 64 * (k : Int) ≤ 64 * (k : Int) + 64 := by omega
   have g4 : 64 * (k : Int) + 64 ≤ (c : Int) := by omega
   have g5 : 64 * k + 64 - 64 * k = 64 := by omega
   have g6 : ¬ (64 * k + 64 = 64 * k) := by omega
   gi_wp2
   refine ⟨(by intro h; cases h), ?_⟩
   refine hR2.mono ?_
   rintro e W3 ⟨bb, rfl, hJ3⟩
   have HJ3 := hide hJ3
   clear hJ3 hR2 hy hHeld d1 d2 c1 c2
   cases bb
   ·have HJX := hide (HJ3.out.resolve_left (fun h => by cases h.1)).2
    gi_wp2
    refine bodyPost_ret (results_none rfl _ _ _) rfl ?_
    exact ⟨⟨_, rfl⟩, .inr ⟨k + 1, by omega, HJX.out⟩⟩
   ·have HJX := hide (HJ3.out.resolve_right (fun h => by cases h.1)).2
    have d3 := (HI.out _ _ HJX.out).2
    gi_wp2
    go_roundw
    case rel => exact ⟨k + 1, by omega, by rw [show ((64 * (k + 1) : Nat) : Int) = 64 * (k : Int) + 64 by omega], HJX⟩
    case measure => simp [intOf]; omega
  ·obtain rfl : k = K := by omega
   gi_wp2
   go_end0
   exact ⟨⟨_, rfl⟩, .inl HJ.out⟩
theorem chunk_any (A : Option Addr) (n c : Nat) (w : World) :
  Calls Tryz.prog 173 #[.slice A n c, .int .i64 64] w fun e w' => e = .returned (.func (.func 210) #[] #[.pointer (some ⟨w.heap.size, 0, none⟩), .pointer (some ⟨w.heap.size + 1, 0, none⟩)]) ∧ w' = (w.alloc (.cells #[.slice A n c] 41)).alloc (.cells #[.int .i64 64] 3) := by
 have hmf : ∀ (fn : Fn) (first cap : Array Value) (w : World), (Instr.makeFunc fn first cap).run Tryz.prog w = .ok (.func fn first cap) w := fun _ _ _ _ => rfl
 go_enter Tryz.func173, Tryz.ntmps173
 go_wp2
 go_ret
 exact ⟨by simp, rfl⟩
end Go.Proofs.YtolbalafhfpjbaaGreat.wr
