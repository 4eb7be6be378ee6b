import Derived.Test.YtgifeilmidpkeaaGreatVChainSmall
set_option maxRecDepth 100000
set_option maxHeartbeats 1000000
namespace Go.Proofs.YtgifeilmidpkeaaGreat.sc
set_option linter.unusedSimpArgs false
open Go.RowKit mem base disk geom owns
open record (Rc RcIn RcAt put5 put5_kept cell5)
open item (It Items)
theorem onward_any (c d gp : Nat) (fr en : Ps) (er : Int) (b s l r q : Int) (p : Ps) (R : Rc) (L P : Option Addr) (n lc k dc : Nat) (w : World) (hc : CcAt w c d gp fr en er) (hg : GAt w gp b s l r q) (hv : Items w [] L R.its) (hl : R.its.length = n) (hn : n ≤ 1000) :
  Calls Tryz.prog 199 #[.pointer (some ⟨c, 0, none⟩), p.val, .agg #[.int .i64 R.m, .int .i64 R.l, .int .i64 R.p, .slice L n lc, .slice P k dc]] w fun e w' => e = .returned (.tuple #[(stepOn s p R).1.val, .bool (stepOn s p R).2]) ∧ Kept [] w w' := by
 obtain ⟨z, hz⟩ : ∃ z, w.heap.size = z := ⟨_, rfl⟩
 have HZ := hide (Nat.le_of_eq hz)
 obtain ⟨w0, hw0⟩ : ∃ w0, ((w.alloc (.cells #[.int .i64 p.s, .int .i64 p.o, .int .i64 p.l, .int .i64 p.v, .int .i64 p.m] 24)).alloc (.cells #[.int .i64 R.m, .int .i64 R.l, .int .i64 R.p, .slice L n lc, .slice P k dc] 77)).alloc (.cells #[.int .i64 0, .int .i64 0, .int .i64 0, .int .i64 0, .int .i64 0] 24) = w0 := ⟨_, rfl⟩
 have hk0 : Kept [] w w0 := by rw [← hw0]; exact (((Kept.refl [] w).alloc _).alloc _).alloc _
 have hb4 : Blk w0 z 24 #[.int .i64 p.s, .int .i64 p.o, .int .i64 p.l, .int .i64 p.v, .int .i64 p.m] := by
  rw [← hw0, ← hz]; exact ((Blk.new w _ _).alloc _).alloc _
 have hb5 : Blk w0 (z + 1) 77 #[.int .i64 R.m, .int .i64 R.l, .int .i64 R.p, .slice L n lc, .slice P k dc] := by
  rw [← hw0, ← hz]
  have := (Blk.new (w.alloc (.cells #[.int .i64 p.s, .int .i64 p.o, .int .i64 p.l, .int .i64 p.v, .int .i64 p.m] 24)) 77 #[.int .i64 R.m, .int .i64 R.l, .int .i64 R.p, .slice L n lc, .slice P k dc]).alloc (.cells #[.int .i64 0, .int .i64 0, .int .i64 0, .int .i64 0, .int .i64 0] 24)
  rwa [World.size_alloc] at this
 have hb6 : Blk w0 (z + 1 + 1) 24 #[.int .i64 0, .int .i64 0, .int .i64 0, .int .i64 0, .int .i64 0] := by
  rw [← hw0, ← hz]
  have := Blk.new ((w.alloc (.cells #[.int .i64 p.s, .int .i64 p.o, .int .i64 p.l, .int .i64 p.v, .int .i64 p.m] 24)).alloc (.cells #[.int .i64 R.m, .int .i64 R.l, .int .i64 R.p, .slice L n lc, .slice P k dc] 77)) 24 #[.int .i64 0, .int .i64 0, .int .i64 0, .int .i64 0, .int .i64 0]
  rwa [World.size_alloc, World.size_alloc] at this
 have HK0 := hide hk0
 have HC := hide (hc.kept hk0 (by simp))
 have HGE := hide (hg.kept hk0)
 have HV := hide (hv.kept hk0 (by simp))
 have HB4 := hide hb4
 have HB5 := hide hb5
 have HB6 := hide hb6
 have HL := sealed hl
 have b3 := hb5.cell 3
 clear hc hg hv hk0 hb4 hb5 hb6 hl
 unfold Ps.val
 go_enter Tryz.func199, Tryz.ntmps199
 go_wp2_with fail
 refine (cindex_any L n lc R.its _ HV.out HL.out hn).mono ?_
 rintro e w1 ⟨kk, rfl, hix, hk1⟩
 have HK1 := hide (HK0.out.trans hk1 (by simp))
 have HC1 := hide (HC.out.kept hk1 (by simp))
 have HG1 := hide (HGE.out.kept hk1)
 have HV1 := hide (HV.out.kept hk1 (by simp))
 have HB41 := hide (hk1.blk HB4.out (by simp))
 have HB51 := hide (hk1.blk HB5.out (by simp))
 have HB61 := hide (hk1.blk HB6.out (by simp))
 clear hk1 HK0 HC HGE HV HB4 HB5 HB6 b3
 cases hix with
 | no hno =>
  have HST : Hid (stepOn s p R = (p, false)) := hide (by unfold stepOn nextItem; rw [hno])
  clear hno
  obtain ⟨a0, a1, a2, a3, a4⟩ := cell5 HB41.out
  obtain ⟨u0, u1, u2, u3, u4⟩ := cell5 HB61.out
  have hf6 := HB61.out.frozen
  go_wp2
  refine wp_region_noPanic ?_
  refine wp_region_held_drew (S := fun _ => True) (by kernel_rfl) (by trivial) (fun hHeld => ?_)
  refine tK 0 12 rfl ?_
  try simp only [Act.put, pA, pB, pC]
  refine tK 1 13 rfl ?_
  try simp only [Act.put, pA, pB, pC]
  refine tK 2 14 rfl ?_
  try simp only [Act.put, pA, pB, pC]
  refine tU 3 15 rfl ?_
  try simp only [Act.put, pA, pB, pC]
  refine tU 4 16 rfl ?_
  try simp only [Act.put, pA, pB, pC]
  refine tU 5 17 rfl ?_
  try simp only [Act.put, pA, pB, pC]
  refine tU 6 18 rfl ?_
  try simp only [Act.put, pA, pB, pC]
  refine tU 7 19 rfl ?_
  try simp only [Act.put, pA, pB, pC]
  refine tU 8 20 rfl ?_
  try simp only [Act.put, pA, pB, pC]
  refine tU 9 21 rfl ?_
  try simp only [Act.put, pA, pB, pC]
  refine tU 10 22 rfl ?_
  try simp only [Act.put, pA, pB, pC]
  refine tU 11 23 rfl ?_
  try simp only [Act.put, pA, pB, pC]
  refine tU 12 24 rfl ?_
  try simp only [Act.put, pA, pB, pC]
  refine tU 13 25 rfl ?_
  try simp only [Act.put, pA, pB, pC]
  refine tU 14 26 rfl ?_
  try simp only [Act.put, pA, pB, pC]
  refine tU 15 27 rfl ?_
  try simp only [Act.put, pA, pB, pC]
  refine tK 16 28 rfl ?_
  try simp only [Act.put, pA, pB, pC]
  refine wpAnyH_done (by kernel_rfl) ?_ _
  refine NoPanic.normal ?_
  have HBX := hide ((Blk.set_ (Blk.set_ (Blk.set_ (Blk.set_ (Blk.set_ HB61.out 0 (.int .i64 p.s)) 1 (.int .i64 p.o)) 2 (.int .i64 p.l)) 3 (.int .i64 p.v)) 4 (.int .i64 p.m)).drew)
  have HKX := hide (((((((Kept.refl [z + 1 + 1] w1).set_ (b := z + 1 + 1) (.inl (by simp)) 0 (.int .i64 p.s)).set_ (b := z + 1 + 1) (.inl (by simp)) 1 (.int .i64 p.o)).set_ (b := z + 1 + 1) (.inl (by simp)) 2 (.int .i64 p.l)).set_ (b := z + 1 + 1) (.inl (by simp)) 3 (.int .i64 p.v)).set_ (b := z + 1 + 1) (.inl (by simp)) 4 (.int .i64 p.m)).drew)
  go_wp2
  generalize (((((w1.setCell ⟨z + 1 + 1, 0, none⟩ (.int .i64 p.s)).setCell ⟨z + 1 + 1, 1, none⟩ (.int .i64 p.o)).setCell ⟨z + 1 + 1, 2, none⟩ (.int .i64 p.l)).setCell ⟨z + 1 + 1, 3, none⟩ (.int .i64 p.v)).setCell ⟨z + 1 + 1, 4, none⟩ (.int .i64 p.m)).drew = wx at HBX HKX ⊢
  obtain ⟨v0, v1, v2, v3, v4⟩ := cell5 HBX.out
  refine bodyPost_ret (v := .tuple #[.agg #[.int .i64 p.s, .int .i64 p.o, .int .i64 p.l, .int .i64 p.v, .int .i64 p.m], .bool false]) ?_ rfl ⟨by rw [HST.out], HK1.out.trans HKX.out (fun i hi => by simp at hi; subst hi; have := HZ.out; exact .inr (by omega))⟩
  simp [results, Tryz.results199, go_sem, v0, v1, v2, v3, v4]
 | yes j i hj hf =>
  have hjn : j < n := by have := (List.getElem?_eq_some_iff.1 hj).1; rw [HL.out] at this; exact this
  have hj0 : ¬ (j : Int) < 0 := by omega
  have hjd : decide ((j : Int) < 0) = false := decide_eq_false hj0
  have hj1 : (j : Int) < n := by omega
  obtain ⟨ad, rfl, _, c0, c1, c2, c3⟩ := HV1.out.at_ hj
  have HF := hide (show nextItem R = some i from hf)
  have HJ := hide hj
  have HST1 := hide (show Kept [] w1 w1.drew ∧ w1.drew.cell? ⟨z + 1, 3, none⟩ = some (.slice (some ad) n lc) ∧ w1.drew.cell? ⟨(ad.add (j * 4)).block, (ad.add (j * 4)).off + 3, none⟩ = some (.int .i64 i.v) ∧ w1.drew.cell? ⟨c, 1, none⟩ = some (.pointer (some ⟨gp, 0, none⟩)) from ⟨(Kept.refl [] w1).drew, HB51.out.cell 3, c3, HC1.out.two.2⟩)
  have hfs := field_s
  clear hf hj c0 c1 c2 c3
  go_wp2
  refine wp_region_noPanic ?_
  refine wp_region_held_drew (S := fun W => Kept [] w1 W ∧ W.cell? ⟨z + 1, 3, none⟩ = some (.slice (some ad) n lc) ∧ W.cell? ⟨(ad.add (j * 4)).block, (ad.add (j * 4)).off + 3, none⟩ = some (.int .i64 i.v) ∧ W.cell? ⟨c, 1, none⟩ = some (.pointer (some ⟨gp, 0, none⟩))) (by kernel_rfl) (by exact HST1.out) (fun hHeld => ?_)
  refine tK 0 12 rfl ?_
  try simp only [Act.put, pA, pB, pC]
  refine tK 1 13 rfl ?_
  try simp only [Act.put, pA, pB, pC]
  refine tK 2 14 rfl ?_
  try simp only [Act.put, pA, pB, pC]
  refine tK 3 15 rfl ?_
  try simp only [Act.put, pA, pB, pC]
  refine tK 4 16 rfl ?_
  try simp only [Act.put, pA, pB, pC]
  refine tK 5 17 rfl ?_
  try simp only [Act.put, pA, pB, pC]
  refine tK 6 18 rfl ?_
  try simp only [Act.put, pA, pB, pC]
  refine tK 7 19 rfl ?_
  try simp only [Act.put, pA, pB, pC]
  refine tK 8 20 rfl ?_
  try simp only [Act.put, pA, pB, pC]
  refine tK 9 21 rfl ?_
  try simp only [Act.put, pA, pB, pC]
  refine tK 10 22 rfl ?_
  try simp only [Act.put, pA, pB, pC]
  refine tK 11 23 rfl ?_
  try simp only [Act.put, pA, pB, pC]
  refine tK 12 24 rfl ?_
  try simp only [Act.put, pA, pB, pC]
  refine hO 13 (some 25) rfl fun K hK => ?_
  go_simp
  refine (config_at gp b s l r q _ (HG1.out.kept hHeld.1)).mono ?_
  rintro e w2 ⟨rfl, hk2⟩
  have HK2 := hide (hHeld.1.trans hk2 (by simp))
  refine hK.out _ _ (by exact ⟨HK2.out, hk2.cell hHeld.2.1 (by simp), hk2.cell hHeld.2.2.1 (by simp), hk2.cell hHeld.2.2.2 (by simp)⟩) (fun hHeld => ?_)
  clear hK K
  try simp only [Act.put, pA, pB, pC]
  refine tK 14 26 rfl ?_
  try simp only [Act.put, pA, pB, pC]
  refine tK 15 27 rfl ?_
  try simp only [Act.put, pA, pB, pC]
  refine tK 16 28 rfl ?_
  try simp only [Act.put, pA, pB, pC]
  refine wpAnyH_done (by kernel_rfl) ?_ _
  refine NoPanic.normal ?_
  have HC2 := hide (HC1.out.kept HK2.out (by simp))
  have HV2 := hide (HV1.out.kept HK2.out (by simp))
  have HB42 := hide (HK2.out.blk HB41.out (by simp))
  have HB52 := hide (HK2.out.blk HB51.out (by simp))
  have HB62 := hide (HK2.out.blk HB61.out (by simp))
  have HKW2 := hide (HK1.out.trans HK2.out (by simp))
  obtain ⟨a0, a1, a2, a3, a4⟩ := cell5 HB42.out
  obtain ⟨u0, u1, u2, u3, u4⟩ := cell5 HB62.out
  have hf6 := HB62.out.frozen
  have hf4 := HB42.out.frozen
  clear HC1 HV1 HB41 HB51 HB61 HG1 HK2 HST1 hHeld
  by_cases hiv : s ≤ i.v
  ·have HST : Hid (stepOn s p R = (p, false)) := hide (by unfold stepOn; rw [HF.out]; simp [hiv])
   have hdv : decide (s ≤ i.v) = true := decide_eq_true hiv
   have HBX := hide ((Blk.set_ (Blk.set_ (Blk.set_ (Blk.set_ (Blk.set_ HB62.out 0 (.int .i64 p.s)) 1 (.int .i64 p.o)) 2 (.int .i64 p.l)) 3 (.int .i64 p.v)) 4 (.int .i64 p.m)))
   have HKX := hide (((((((Kept.refl [z + 1 + 1] w2).set_ (b := z + 1 + 1) (.inl (by simp)) 0 (.int .i64 p.s)).set_ (b := z + 1 + 1) (.inl (by simp)) 1 (.int .i64 p.o)).set_ (b := z + 1 + 1) (.inl (by simp)) 2 (.int .i64 p.l)).set_ (b := z + 1 + 1) (.inl (by simp)) 3 (.int .i64 p.v)).set_ (b := z + 1 + 1) (.inl (by simp)) 4 (.int .i64 p.m)))
   go_wp2
   generalize (((((w2.setCell ⟨z + 1 + 1, 0, none⟩ (.int .i64 p.s)).setCell ⟨z + 1 + 1, 1, none⟩ (.int .i64 p.o)).setCell ⟨z + 1 + 1, 2, none⟩ (.int .i64 p.l)).setCell ⟨z + 1 + 1, 3, none⟩ (.int .i64 p.v)).setCell ⟨z + 1 + 1, 4, none⟩ (.int .i64 p.m)) = wx at HBX HKX ⊢
   obtain ⟨v0, v1, v2, v3, v4⟩ := cell5 HBX.out
   refine bodyPost_ret (v := .tuple #[.agg #[.int .i64 p.s, .int .i64 p.o, .int .i64 p.l, .int .i64 p.v, .int .i64 p.m], .bool false]) ?_ rfl ⟨by rw [HST.out], HKW2.out.trans HKX.out (fun i hi => by simp at hi; subst hi; have := HZ.out; exact .inr (by omega))⟩
   simp [results, Tryz.results199, go_sem, v0, v1, v2, v3, v4]
  ·have HST : Hid (stepOn s p R = (⟨i.v, 0, p.l, p.v, p.m⟩, true)) := hide (by unfold stepOn; rw [HF.out]; simp [hiv])
   have hdv : decide (s ≤ i.v) = false := decide_eq_false hiv
   obtain ⟨ad2, hae, _, e0, e1, e2, e3⟩ := HV2.out.at_ HJ.out
   injection hae with hae
   subst hae
   have t3 := HB52.out.cell 3
   clear e0 e1 e2
   go_wp2
   have HK2A := hide (((Kept.refl [z, z + 1 + 1] w2).set_ (b := z) (.inl (by simp)) 0 (.int .i64 i.v)).set_ (b := z) (.inl (by simp)) 1 (.int .i64 0))
   have HB6A := hide ((((Kept.refl [z] w2).set_ (b := z) (.inl (by simp)) 0 (.int .i64 i.v)).set_ (b := z) (.inl (by simp)) 1 (.int .i64 0)).blk HB62.out (by simp; omega))
   have HBX := hide ((Blk.set_ (Blk.set_ (Blk.set_ (Blk.set_ (Blk.set_ HB6A.out 0 (.int .i64 i.v)) 1 (.int .i64 0)) 2 (.int .i64 p.l)) 3 (.int .i64 p.v)) 4 (.int .i64 p.m)))
   have HKX := hide ((((((HK2A.out.set_ (b := z + 1 + 1) (.inl (by simp)) 0 (.int .i64 i.v)).set_ (b := z + 1 + 1) (.inl (by simp)) 1 (.int .i64 0)).set_ (b := z + 1 + 1) (.inl (by simp)) 2 (.int .i64 p.l)).set_ (b := z + 1 + 1) (.inl (by simp)) 3 (.int .i64 p.v)).set_ (b := z + 1 + 1) (.inl (by simp)) 4 (.int .i64 p.m)))
   generalize (((((((w2.setCell ⟨z, 0, none⟩ (.int .i64 i.v)).setCell ⟨z, 1, none⟩ (.int .i64 0)).setCell ⟨z + 1 + 1, 0, none⟩ (.int .i64 i.v)).setCell ⟨z + 1 + 1, 1, none⟩ (.int .i64 0)).setCell ⟨z + 1 + 1, 2, none⟩ (.int .i64 p.l)).setCell ⟨z + 1 + 1, 3, none⟩ (.int .i64 p.v)).setCell ⟨z + 1 + 1, 4, none⟩ (.int .i64 p.m)) = wx at HBX HKX ⊢
   obtain ⟨v0, v1, v2, v3, v4⟩ := cell5 HBX.out
   refine bodyPost_ret (v := .tuple #[.agg #[.int .i64 i.v, .int .i64 0, .int .i64 p.l, .int .i64 p.v, .int .i64 p.m], .bool true]) ?_ rfl ⟨by rw [HST.out], HKW2.out.trans HKX.out (fun i hi => by simp at hi; have := HZ.out; rcases hi with rfl | rfl <;> exact .inr (by omega))⟩
   simp [results, Tryz.results199, go_sem, v0, v1, v2, v3, v4]
def followedOf (D : Dk) (s l r q : Int) (p : Ps) : Ps := if p.o = 0 then ⟨p.s, 1, p.l, p.v, (hd.decode (D.read (segAt s l r q p.s)).2).1.m⟩ else p

theorem followed_any (F : List Nat) (D : Dk) (hD : D.ok) (c d gp : Nat) (fr en : Ps) (er : Int) (b s l r q : Int) (p : Ps) (w : World) (hc : CcAt w c d gp fr en er) (hg : GAt w gp b s l r q) (hv : VD w F d D) :
  Calls Tryz.prog 198 #[.pointer (some ⟨c, 0, none⟩), p.val] w fun e w' => e = .returned (followedOf D s l r q p).val ∧ Kept [] w w' := by
 obtain ⟨z, hz⟩ : ∃ z, w.heap.size = z := ⟨_, rfl⟩
 have HZ := hide (Nat.le_of_eq hz)
 obtain ⟨w0, hw0⟩ : ∃ w0, (w.alloc (.cells #[.int .i64 p.s, .int .i64 p.o, .int .i64 p.l, .int .i64 p.v, .int .i64 p.m] 24)).alloc (.cells #[.int .i64 0, .int .i64 0, .int .i64 0, .int .i64 0, .int .i64 0] 24) = w0 := ⟨_, rfl⟩
 have hk0 : Kept [] w w0 := by rw [← hw0]; exact ((Kept.refl [] w).alloc _).alloc _
 have hb3 : Blk w0 z 24 #[.int .i64 p.s, .int .i64 p.o, .int .i64 p.l, .int .i64 p.v, .int .i64 p.m] := by
  rw [← hw0, ← hz]; exact (Blk.new w _ _).alloc _
 have hb4 : Blk w0 (z + 1) 24 #[.int .i64 0, .int .i64 0, .int .i64 0, .int .i64 0, .int .i64 0] := by
  rw [← hw0, ← hz]
  have := Blk.new (w.alloc (.cells #[.int .i64 p.s, .int .i64 p.o, .int .i64 p.l, .int .i64 p.v, .int .i64 p.m] 24)) 24 #[.int .i64 0, .int .i64 0, .int .i64 0, .int .i64 0, .int .i64 0]
  rwa [World.size_alloc] at this
 have HK0 := hide hk0
 have HC := hide (hc.kept hk0 (by simp))
 have HGE := hide (hg.kept hk0)
 have HV := hide (hv.kept hk0 (by simp))
 have HB3 := hide hb3
 have HB4 := hide hb4
 have hf4 := hb4.frozen
 have HD := hide hD
 obtain ⟨a0, a1, a2, a3, a4⟩ := cell5 hb3
 clear hc hg hv hk0 hb3 hb4 hD
 unfold Ps.val
 by_cases ho : p.o = 0
 ·have HO := sealed ho
  have hob : (p.o == 0) = true := beq_iff_eq.2 ho
  have HST := hide (show Kept [] w0 w0.drew ∧ w0.drew.cell? ⟨c, 0, none⟩ = some (.pointer (some ⟨d, 0, none⟩)) ∧ w0.drew.cell? ⟨c, 1, none⟩ = some (.pointer (some ⟨gp, 0, none⟩)) ∧ w0.drew.cell? ⟨z, 0, none⟩ = some (.int .i64 p.s) from ⟨(Kept.refl [] w0).drew, HC.out.two.1, HC.out.two.2, a0⟩)
  clear ho
  go_enter Tryz.func198, Tryz.ntmps198
  go_wp2
  refine wp_region_noPanic ?_
  refine wp_region_held_drew (S := fun W => Kept [] w0 W ∧ W.cell? ⟨c, 0, none⟩ = some (.pointer (some ⟨d, 0, none⟩)) ∧ W.cell? ⟨c, 1, none⟩ = some (.pointer (some ⟨gp, 0, none⟩)) ∧ W.cell? ⟨z, 0, none⟩ = some (.int .i64 p.s)) (by kernel_rfl) (by exact HST.out) (fun hHeld => ?_)
  refine tK 0 13 rfl ?_
  try simp only [Act.put, pA, pB, pC]
  refine tK 1 14 rfl ?_
  try simp only [Act.put, pA, pB, pC]
  refine tK 2 15 rfl ?_
  try simp only [Act.put, pA, pB, pC]
  refine tK 3 16 rfl ?_
  try simp only [Act.put, pA, pB, pC]
  refine tK 4 17 rfl ?_
  try simp only [Act.put, pA, pB, pC]
  refine tK 5 18 rfl ?_
  try simp only [Act.put, pA, pB, pC]
  refine tK 6 19 rfl ?_
  try simp only [Act.put, pA, pB, pC]
  refine tK 7 20 rfl ?_
  try simp only [Act.put, pA, pB, pC]
  refine tK 8 21 rfl ?_
  try simp only [Act.put, pA, pB, pC]
  refine tK 9 22 rfl ?_
  try simp only [Act.put, pA, pB, pC]
  refine hO 10 (some 23) rfl fun K hK => ?_
  go_simp
  refine (seg_any gp b s l r q p.s _ (HGE.out.kept hHeld.1)).mono ?_
  rintro e w1 ⟨rfl, hk1⟩
  refine hK.out _ _ (by exact ⟨hHeld.1.trans hk1 (by simp), hk1.cell hHeld.2.1 (by simp), hk1.cell hHeld.2.2.1 (by simp), hk1.cell hHeld.2.2.2 (by simp)⟩) (fun hHeld => ?_)
  clear hK K
  try simp only [Act.put, pA, pB, pC]
  refine hO 11 (some 24) rfl fun K hK => ?_
  go_simp
  refine (read_own d F D (segAt s l r q p.s) _ (HV.out.kept hHeld.1 (by simp))).mono ?_
  rintro e w2 ⟨⟨A1, n1, rfl, hf1, _⟩, hk2⟩
  have HF2 := hide hf1
  have HK2 := hide (hHeld.1.trans hk2 (by simp))
  refine hK.out _ _ (by exact ⟨HK2.out, hk2.cell hHeld.2.1 (by simp), hk2.cell hHeld.2.2.1 (by simp), hk2.cell hHeld.2.2.2 (by simp)⟩) (fun hHeld => ?_)
  clear hK K
  try simp only [Act.put, pA, pB, pC]
  refine tK 12 12 rfl ?_
  try simp only [Act.put, pA, pB, pC]
  refine tK 13 25 rfl ?_
  try simp only [Act.put, pA, pB, pC]
  refine tK 14 26 rfl ?_
  try simp only [Act.put, pA, pB, pC]
  refine tK 15 5 rfl ?_
  try simp only [Act.put, pA, pB, pC]
  refine tK 16 6 rfl ?_
  try simp only [Act.put, pA, pB, pC]
  refine wpAnyH_done (by kernel_rfl) ?_ _
  refine NoPanic.normal ?_
  have HLE : Hid ((D.read (segAt s l r q p.s)).2.length ≤ 64) := hide (by rw [read_len64 D HD.out]; split <;> omega)
  obtain ⟨bs, hbs⟩ : ∃ bs, (D.read (segAt s l r q p.s)).2 = bs := ⟨_, rfl⟩
  have HFO : Hid (followedOf D s l r q p = ⟨p.s, 1, p.l, p.v, (hd.decode bs).1.m⟩) := hide (by unfold followedOf; rw [if_pos HO.out, hbs])
  rw [hbs] at HF2 HLE ⊢
  clear hbs
  go_wp2_with fail
  refine (hd.decode_any A1 bs.length n1 bs _ HF2.out.vals rfl HF2.out.2.2.1 (by have := HLE.out; omega)).mono ?_
  rintro e w3 ⟨rfl, hk3⟩
  obtain ⟨H, e2, hde⟩ : ∃ H e2, hd.decode bs = (H, e2) := ⟨_, _, rfl⟩
  rw [hde] at HFO ⊢
  clear hde
  dsimp only at HFO
  dsimp only
  unfold hd.Hd.val
  have hb7 := Blk.new w3 139 #[.int .i64 H.g, .int .i64 H.m, .int .i64 H.l, .int .i64 H.v]
  have hk7 := (Kept.refl [] w3).alloc (.cells #[.int .i64 H.g, .int .i64 H.m, .int .i64 H.l, .int .i64 H.v] 139)
  obtain ⟨y, hy⟩ : ∃ y, w3.heap.size = y := ⟨_, rfl⟩
  rw [hy] at hb7
  have HK3 := hide (HK2.out.trans hk3 (by simp))
  have hz1 : z + 1 < y := by have h1 := HK3.out.size; have h2 := HB4.out.lt; omega
  have HB33 := hide (hk7.blk (HK3.out.blk HB3.out (by simp)) (by simp))
  have HB43 := hide (hk7.blk (HK3.out.blk HB4.out (by simp)) (by simp))
  have HKW := hide ((HK0.out.trans HK3.out (by simp)).trans hk7 (by simp))
  clear HF2 HK2 HC HGE HV HB3 HB4 hf4 a0 a1 a2 a3 a4 hHeld HST hk7 hk3 HK0 HK3 HLE
  go_wp2
  generalize w3.alloc (.cells #[.int .i64 H.g, .int .i64 H.m, .int .i64 H.l, .int .i64 H.v] 139) = w4 at hb7 HB33 HB43 HKW ⊢
  obtain ⟨a0, a1, a2, a3, a4⟩ := cell5 HB33.out
  have hf3 := HB33.out.frozen
  have HY1 := hide (hb7.cell 1)
  refine wp_region_noPanic ?_
  refine wp_region_held_drew (S := fun W => W.cell? ⟨y, 1, none⟩ = some (.int .i64 H.m)) (by kernel_rfl) (by exact HY1.out) (fun hHeld => ?_)
  refine tK 0 32 rfl ?_
  try simp only [Act.put, pA, pB, pC]
  refine tK 1 33 rfl ?_
  try simp only [Act.put, pA, pB, pC]
  refine tK 2 34 rfl ?_
  try simp only [Act.put, pA, pB, pC]
  refine hO 3 none rfl fun K hK => ?_
  go_simp
  have HB3A := hide ((Blk.set_ HB33.out 1 (.int .i64 1)).drew)
  have HKA := hide (((Kept.refl [z] w4).set_ (b := z) (.inl (by simp)) 1 (.int .i64 1)).drew)
  generalize (w4.setCell ⟨z, 1, none⟩ (.int .i64 1)).drew = wA at HB3A HKA ⊢
  have f3 := HB3A.out.frozen 4
  have c3 := HB3A.out.cell 4
  refine hK.out _ _ (by exact (HKA.out.cell HY1.out (by simp; omega))) (fun hHeld => ?_)
  clear hK K
  try simp only [Act.put, pA, pB, pC]
  refine tK 4 35 rfl ?_
  try simp only [Act.put, pA, pB, pC]
  refine hO 5 none rfl fun K hK => ?_
  go_simp
  have HB3B := hide (Blk.set_ HB3A.out 4 (.int .i64 H.m))
  have HKB := hide (HKA.out.set_ (b := z) (.inl (by simp)) 4 (.int .i64 H.m))
  generalize wA.setCell ⟨z, 4, none⟩ (.int .i64 H.m) = wB at HB3B HKB ⊢
  refine hK.out _ _ (by exact (HKB.out.cell HY1.out (by simp; omega))) (fun hHeld => ?_)
  clear hK K
  try simp only [Act.put, pA, pB, pC]
  refine wpAnyH_done (by kernel_rfl) ?_ _
  refine NoPanic.normal ?_
  have HB4B := hide (HKB.out.blk HB43.out (by simp))
  clear a0 a1 a2 a3 a4 hf3 f3 c3 hHeld
  obtain ⟨a0, a1, a2, a3, a4⟩ := cell5 HB3B.out
  obtain ⟨u0, u1, u2, u3, u4⟩ := cell5 HB4B.out
  have hf4 := HB4B.out.frozen
  have HBX := hide ((Blk.set_ (Blk.set_ (Blk.set_ (Blk.set_ (Blk.set_ HB4B.out 0 (.int .i64 p.s)) 1 (.int .i64 1)) 2 (.int .i64 p.l)) 3 (.int .i64 p.v)) 4 (.int .i64 H.m)))
  have HKX := hide (((((((Kept.refl [z + 1] wB).set_ (b := z + 1) (.inl (by simp)) 0 (.int .i64 p.s)).set_ (b := z + 1) (.inl (by simp)) 1 (.int .i64 1)).set_ (b := z + 1) (.inl (by simp)) 2 (.int .i64 p.l)).set_ (b := z + 1) (.inl (by simp)) 3 (.int .i64 p.v)).set_ (b := z + 1) (.inl (by simp)) 4 (.int .i64 H.m)))
  go_wp2
  generalize (((((wB.setCell ⟨z + 1, 0, none⟩ (.int .i64 p.s)).setCell ⟨z + 1, 1, none⟩ (.int .i64 1)).setCell ⟨z + 1, 2, none⟩ (.int .i64 p.l)).setCell ⟨z + 1, 3, none⟩ (.int .i64 p.v)).setCell ⟨z + 1, 4, none⟩ (.int .i64 H.m)) = wx at HBX HKX ⊢
  obtain ⟨v0, v1, v2, v3, v4⟩ := cell5 HBX.out
  refine bodyPost_ret (v := .agg #[.int .i64 p.s, .int .i64 1, .int .i64 p.l, .int .i64 p.v, .int .i64 H.m]) ?_ rfl ⟨by rw [HFO.out], (HKW.out.trans HKB.out (fun i hi => by simp at hi; subst hi; have := HZ.out; exact .inr (by omega))).trans HKX.out (fun i hi => by simp at hi; subst hi; have := HZ.out; exact .inr (by omega))⟩
  simp [results, Tryz.results198, go_sem, v0, v1, v2, v3, v4]
 ·have HST : Hid (followedOf D s l r q p = p) := hide (if_neg ho)
  have hob : (p.o == 0) = false := beq_eq_false_iff_ne.2 ho
  obtain ⟨u0, u1, u2, u3, u4⟩ := cell5 HB4.out
  have HBX := hide ((Blk.set_ (Blk.set_ (Blk.set_ (Blk.set_ (Blk.set_ HB4.out 0 (.int .i64 p.s)) 1 (.int .i64 p.o)) 2 (.int .i64 p.l)) 3 (.int .i64 p.v)) 4 (.int .i64 p.m)))
  have HKX := hide (((((((Kept.refl [z + 1] w0).set_ (b := z + 1) (.inl (by simp)) 0 (.int .i64 p.s)).set_ (b := z + 1) (.inl (by simp)) 1 (.int .i64 p.o)).set_ (b := z + 1) (.inl (by simp)) 2 (.int .i64 p.l)).set_ (b := z + 1) (.inl (by simp)) 3 (.int .i64 p.v)).set_ (b := z + 1) (.inl (by simp)) 4 (.int .i64 p.m)))
  clear ho
  go_enter Tryz.func198, Tryz.ntmps198
  go_wp2
  generalize (((((w0.setCell ⟨z + 1, 0, none⟩ (.int .i64 p.s)).setCell ⟨z + 1, 1, none⟩ (.int .i64 p.o)).setCell ⟨z + 1, 2, none⟩ (.int .i64 p.l)).setCell ⟨z + 1, 3, none⟩ (.int .i64 p.v)).setCell ⟨z + 1, 4, none⟩ (.int .i64 p.m)) = wx at HBX HKX ⊢
  obtain ⟨v0, v1, v2, v3, v4⟩ := cell5 HBX.out
  refine bodyPost_ret (v := .agg #[.int .i64 p.s, .int .i64 p.o, .int .i64 p.l, .int .i64 p.v, .int .i64 p.m]) ?_ rfl ⟨by rw [HST.out], HK0.out.trans HKX.out (fun i hi => by simp at hi; subst hi; have := HZ.out; exact .inr (by omega))⟩
  simp [results, Tryz.results198, go_sem, v0, v1, v2, v3, v4]
end Go.Proofs.YtgifeilmidpkeaaGreat.sc
