import Derived.Test.YtgifeilmidpkeaaGreatVChainRung
import Derived.Test.YtgifeilmidpkeaaGreatVChainNone
namespace Go.Proofs.YtgifeilmidpkeaaGreat.sc
set_option linter.unusedSimpArgs false
set_option linter.unusedVariables false
open Go.RowKit mem base disk owns geom
open record (Rc RcIn RcAt put5 put5_kept cell5)
set_option maxRecDepth 100000 in
set_option maxHeartbeats 8000000 in
theorem cawake_any (w : World) : Calls Tryz.prog 33 #[] w fun e w' => e = .returned (.bool true) ∧ Kept [] w w' := by
 obtain ⟨b1, hb1⟩ : ∃ b1, w.heap.size = b1 := ⟨_, rfl⟩
 obtain ⟨w1, hw1⟩ : ∃ w1, w.alloc (.cells #[.int .i64 2, .int .i64 8, .int .i64 24] 29) = w1 := ⟨_, rfl⟩
 have k1 : Kept [] w w1 := by rw [← hw1]; exact (Kept.refl [] w).alloc _
 have m1 : Blk w1 b1 29 #[.int .i64 2, .int .i64 8, .int .i64 24] := by rw [← hw1, ← hb1]; exact Blk.new w _ _
 have HK1 := hide k1
 have HM1 := hide m1
 have HSZ := hide (show w.heap.size ≤ b1 by omega)
 obtain ⟨c0, c1, c2⟩ : w1.cell? ⟨b1, 0, none⟩ = some (.int .i64 2) ∧ w1.cell? ⟨b1, 1, none⟩ = some (.int .i64 8) ∧ w1.cell? ⟨b1, 2, none⟩ = some (.int .i64 24) := ⟨m1.cell 0, m1.cell 1, m1.cell 2⟩
 clear k1 m1
 go_enter Tryz.func33, Tryz.ntmps33
 go_wp2_with fail
 refine (cdesk_any 2 8 24 _ (by unfold geom.Ok; omega)).mono ?_
 rintro e w2 ⟨F, d, G, rd, g, n, r, q, rfl, hdk⟩
 have HDK := hide hdk
 clear hdk
 obtain ⟨b6, hb6⟩ : ∃ b6, w2.heap.size = b6 := ⟨_, rfl⟩
 obtain ⟨w3, hw3⟩ : ∃ w3, w2.alloc (.cells #[.int .i64 2, .int .i64 0, .int .i64 5, .int .i64 9, .int .i64 1] 24) = w3 := ⟨_, rfl⟩
 have k3 : Kept [] w2 w3 := by rw [← hw3]; exact (Kept.refl [] w2).alloc _
 have m6 : Blk w3 b6 24 #[.int .i64 2, .int .i64 0, .int .i64 5, .int .i64 9, .int .i64 1] := by rw [← hw3, ← hb6]; exact Blk.new w2 _ _
 have hbd := HDK.out.geo.bounds
 have hok := HDK.out.geo.ok
 have hnn := HDK.out.hn
 have hrq : 0 ≤ r ∧ 0 ≤ q := by omega
 have hn4 : n ≤ 4096 := by omega
 obtain ⟨p1, R1, p2, R2, p3, R3, E, hE, hrg, h36, h31⟩ := awake_told hrq n hnn hn4 0
 obtain ⟨D1, hD1⟩ : ∃ D1, (laidP 8 24 r q (Dk.new n) ⟨2, 0, 5, 9, 1⟩ [⟨[kz], 6, false⟩, ⟨[kz], 0, false⟩]).1 = D1 := ⟨_, rfl⟩
 rw [hD1] at hrg
 have HE := sealed hE
 have HD1E := sealed hD1
 have HRG := hide hrg
 have H36 := hide h36
 have H31 := hide h31
 have HRF := hide HDK.out.geo.rf
 have HG := hide (HDK.out.geo.kept k3)
 have HM6 := hide m6
 have HM1b := hide (k3.blk (HDK.out.kept.blk HM1.out (by simp)) (by simp))
 have HK3 := hide ((HK1.out.trans HDK.out.kept (by simp)).trans k3 (by simp))
 have HDD := hide (HDK.out.dd.kept0 k3)
 have HFG := hide (show ∀ x ∈ F ++ G, b1 < x ∧ x < b6 from fun x hx => by
  have h1 := HDK.out.new x hx
  have h2 := HDK.out.old
  have h3 := HM1.out.lt
  have h4 := HDK.out.dd.lt x hx
  omega)
 have HFB := hide (show w.heap.size ≤ b6 from by have h1 := HM1.out.lt; have h2 := HDK.out.kept.size; omega)
 have HGL := hide (show g < b6 from by have := HDK.out.geo.lt; omega)
 have HGF := hide (show g ∉ F ++ G from fun hm => by have := HDK.out.new g hm; omega)
 have HN1 := hide (show 1 ≤ n ∧ n ≤ 4096 by omega)
 have HNN := hide (show (2 + 2 * r + 4 * q + 8 * 24 : Int) = n by omega)
 have HB16 := hide (show b1 < b6 from by have h1 := HM1.out.lt; have h2 := HDK.out.kept.size; omega)
 obtain ⟨d0, d1, d2⟩ : w3.cell? ⟨b1, 0, none⟩ = some (.int .i64 2) ∧ w3.cell? ⟨b1, 1, none⟩ = some (.int .i64 8) ∧ w3.cell? ⟨b1, 2, none⟩ = some (.int .i64 24) := ⟨HM1b.out.cell 0, HM1b.out.cell 1, HM1b.out.cell 2⟩
 obtain ⟨p0, p1', p2', p3', p4'⟩ := cell5 HM6.out
 clear hD1 hE c0 c1 c2 k3 m6 hbd hok hnn hn4 hrq hrg h36 h31 HM1 HK1 HDK hw1
 go_wp2_with fail
 obtain ⟨z3, hz3⟩ : ∃ z3, w3.heap.size = z3 := ⟨_, rfl⟩
 obtain ⟨wL, hwL⟩ : ∃ wL, ((w3.alloc (.cells #[.slice none 0 0, .int .i64 0, .int .i64 0, .int .i64 0, .int .i64 0] 129)).alloc (.cells #[.slice none 0 0, .int .i64 0, .int .i64 0, .int .i64 0, .int .i64 0] 129)).alloc (.cells #[.slice (some ⟨w3.heap.size, 0, none⟩) 1 1, .int .i64 6, .bool false, .slice (some ⟨w3.heap.size + 1, 0, none⟩) 1 1, .int .i64 0, .bool false] 169) = wL := ⟨_, rfl⟩
 rw [hwL]
 have hkL : Kept [] w3 wL := by rw [← hwL]; exact (((Kept.refl [] w3).alloc _).alloc _).alloc _
 have hFGz : ∀ i ∈ F ++ G, i < w3.heap.size := HDD.out.lt
 have hv1 : Vals wL (F ++ G) (some ⟨w3.heap.size, 0, none⟩) (zrecs 1) := by
  rw [← hwL]
  exact (Vals.lit w3 (F ++ G) 129 #[.slice none 0 0, .int .i64 0, .int .i64 0, .int .i64 0, .int .i64 0] (0, 0) _ rfl hFGz).kept (((Kept.refl [] _).alloc _).alloc _) (by simp)
 have hv2 : Vals wL (F ++ G) (some ⟨w3.heap.size + 1, 0, none⟩) (zrecs 1) := by
  rw [← hwL]
  have h1 := (Vals.lit (w3.alloc (.cells #[.slice none 0 0, .int .i64 0, .int .i64 0, .int .i64 0, .int .i64 0] 129)) (F ++ G) 129 #[.slice none 0 0, .int .i64 0, .int .i64 0, .int .i64 0, .int .i64 0] (0, 0) _ rfl (fun i hi => by rw [World.size_alloc]; have := hFGz i hi; omega)).kept ((Kept.refl [] _).alloc (.cells #[.slice (some ⟨w3.heap.size, 0, none⟩) 1 1, .int .i64 6, .bool false, .slice (some ⟨w3.heap.size + 1, 0, none⟩) 1 1, .int .i64 0, .bool false] 169)) (by simp)
  rw [World.size_alloc] at h1
  exact h1
 have hv3 : Vals wL (F ++ G) (some ⟨w3.heap.size + 1 + 1, 0, none⟩) [.slice (some ⟨w3.heap.size, 0, none⟩) 1 1, .int .i64 6, .bool false, .slice (some ⟨w3.heap.size + 1, 0, none⟩) 1 1, .int .i64 0, .bool false] := by
  rw [← hwL]
  have h1 := Vals.lit ((w3.alloc (.cells #[.slice none 0 0, .int .i64 0, .int .i64 0, .int .i64 0, .int .i64 0] 129)).alloc (.cells #[.slice none 0 0, .int .i64 0, .int .i64 0, .int .i64 0, .int .i64 0] 129)) (F ++ G) 169 #[.slice (some ⟨w3.heap.size, 0, none⟩) 1 1, .int .i64 6, .bool false, .slice (some ⟨w3.heap.size + 1, 0, none⟩) 1 1, .int .i64 0, .bool false] (0, 0) _ rfl (fun i hi => by rw [World.size_alloc, World.size_alloc]; have := hFGz i hi; omega)
  rw [World.size_alloc, World.size_alloc] at h1
  exact h1
 have hpt : PtIn wL (F ++ G) [⟨[kz], 6, false⟩, ⟨[kz], 0, false⟩] [.slice (some ⟨w3.heap.size, 0, none⟩) 1 1, .int .i64 6, .bool false, .slice (some ⟨w3.heap.size + 1, 0, none⟩) 1 1, .int .i64 0, .bool false] := ⟨_, 1, _, _, rfl, hv1, krin_recs wL (F ++ G) 1, _, 1, _, _, rfl, hv2, krin_recs wL (F ++ G) 1, rfl⟩
 refine (laid_any F G d rd (Dk.new n) ⟨2, 0, 5, 9, 1⟩ 2 8 24 r q _ 2 2 [⟨[kz], 6, false⟩, ⟨[kz], 0, false⟩] _ wL (HDD.out.kept0 hkL) (Reads.new n HN1.out.1 HN1.out.2) HRF.out (by decide) (by rw [show ((Dk.new n).n : Int) = n by unfold Dk.n Dk.new; simp]; have := HNN.out; omega) (by simp [Dk.new]) (by decide) (by decide) (by decide) rfl (by omega) (fun t ht => by
  simp only [List.mem_cons, List.not_mem_nil, or_false] at ht
  rcases ht with rfl | rfl <;> exact ⟨by simp, fun x hx => by rw [List.mem_singleton.1 hx]; simp [kz]⟩) hv3 hpt).mono ?_
 rw [HE.out, HD1E.out]
 rintro e w4 ⟨rfl, F1, G1, hd1, hs1, hk1⟩
 unfold Ps.val
 obtain ⟨b7, hb7⟩ : ∃ b7, w4.heap.size = b7 := ⟨_, rfl⟩
 obtain ⟨w5, hw5⟩ : ∃ w5, w4.alloc (.cells #[.int .i64 E.s, .int .i64 E.o, .int .i64 E.l, .int .i64 E.v, .int .i64 E.m] 24) = w5 := ⟨_, rfl⟩
 have k5 : Kept [] w4 w5 := by rw [← hw5]; exact (Kept.refl [] w4).alloc _
 have m7 : Blk w5 b7 24 #[.int .i64 E.s, .int .i64 E.o, .int .i64 E.l, .int .i64 E.v, .int .i64 E.m] := by rw [← hw5, ← hb7]; exact Blk.new w4 _ _
 have HAP0 := hide (show ∀ y, (y = b1 ∨ y = b6 ∨ y = g) → y ∉ F ++ G from fun y hy hm => by
  have h3 := HFG.out y hm
  rcases hy with rfl | rfl | rfl
  ·omega
  ·omega
  ·exact HGF.out hm)
 have HM6c := hide (k5.blk (hk1.blk (hkL.blk HM6.out (by simp)) (HAP0.out _ (.inr (.inl rfl)))) (by simp))
 have HGc := hide (((HG.out.kept hkL).kept hk1 (HAP0.out _ (.inr (.inr rfl)))).kept k5)
 have HKc := hide (((HK3.out.trans hkL (by simp)).trans hk1 (fun i hi => .inr (by have := HFG.out i hi; have := HSZ.out; omega))).trans k5 (by simp))
 have HM7 := hide m7
 have HD5 := hide (hd1.kept0 k5)
 have HF1 := hide (show ∀ i ∈ F1 ++ G1, i < b7 ∧ i ≠ g ∧ w.heap.size ≤ i from fun i hi => by
  refine ⟨by rw [← hb7]; exact hd1.lt i hi, fun he => ?_, ?_⟩
  ·subst he
   rcases hs1 i hi with h | h
   ·exact HGF.out h
   ·have h1 := HGL.out; have h2 := HM6.out.lt; have h3 := hkL.size; omega
  ·rcases hs1 i hi with h | h
   ·have := HFG.out i h; have := HSZ.out; omega
   ·have h1 := HK3.out.size; have h3 := hkL.size; omega)
 have HGB := hide (show g < b7 ∧ b6 < b7 from by have h1 := HGL.out; have h2 := HM6.out.lt; have h3 := hkL.size; have h4 := hk1.size; omega)
 clear hd1 hs1 hk1 k5 m7 hkL hv1 hv2 hv3 hpt hFGz p0 p1' p2' p3' p4' d0 d1 d2 HM1b HM6 HG HK3 HDD hw3 hz3
 obtain ⟨p0, p1', p2', p3', p4'⟩ := cell5 HM6c.out
 go_wp2_with fail
 refine (cnew_any d g ⟨2, 0, 5, 9, 1⟩ _).mono ?_
 rintro e w6 ⟨c, rfl, hc, hcc, hk6⟩
 have HCC := hide hcc
 have HC := hide (show b7 < c ∧ c ≠ g ∧ c ∉ F1 ++ G1 from by
  have h1 := HM7.out.lt
  exact ⟨by omega, by have := HGB.out; omega, fun hm => by have := HF1.out c hm; omega⟩)
 have HM6d := hide (hk6.blk HM6c.out (by simp))
 have HM7d := hide (hk6.blk HM7.out (by simp))
 have HGd := hide (HGc.out.kept hk6)
 have HKd := hide (HKc.out.trans hk6 (by simp))
 have HDd := hide (HD5.out.kept0 hk6)
 clear hc hcc hk6 p0 p1' p2' p3' p4' HM6c HGc HKc HM7 HD5 hw5 hwL
 obtain ⟨p0, p1', p2', p3', p4'⟩ := cell5 HM6d.out
 go_wp2_with fail
 refine (cnew_nil (some ⟨g, 0, none⟩) ⟨2, 0, 5, 9, 1⟩ _).mono ?_
 rintro e w7 ⟨rfl, hk7⟩
 have HCCe := hide (HCC.out.kept hk7 (by simp))
 have HM6e := hide (hk7.blk HM6d.out (by simp))
 have HM7e := hide (hk7.blk HM7d.out (by simp))
 have HGe := hide (HGd.out.kept hk7)
 have HKe := hide (HKd.out.trans hk7 (by simp))
 have HDe := hide (HDd.out.kept0 hk7)
 clear hk7 p0 p1' p2' p3' p4' HM6d HM7d HGd HKd HDd HCC
 go_wp2_with fail
 refine (cend_any c d g _ _ _ _ HCCe.out).mono ?_
 rintro e w8 ⟨rfl, hk8⟩
 unfold Ps.val
 dsimp only
 obtain ⟨b10, hb10⟩ : ∃ b10, w8.heap.size = b10 := ⟨_, rfl⟩
 obtain ⟨w9, hw9⟩ : ∃ w9, w8.alloc (.cells #[.int .i64 2, .int .i64 0, .int .i64 5, .int .i64 9, .int .i64 1] 24) = w9 := ⟨_, rfl⟩
 have k9 : Kept [] w8 w9 := by rw [← hw9]; exact (Kept.refl [] w8).alloc _
 have m10 : Blk w9 b10 24 #[.int .i64 2, .int .i64 0, .int .i64 5, .int .i64 9, .int .i64 1] := by rw [← hw9, ← hb10]; exact Blk.new w8 _ _
 have k79 := hk8.trans k9 (by simp)
 have HM10 := hide m10
 have HCCf := hide (HCCe.out.kept k79 (by simp))
 have HM6f := hide (k79.blk HM6e.out (by simp))
 have HM7f := hide (k79.blk HM7e.out (by simp))
 have HGf := hide (HGe.out.kept k79)
 have HKf := hide (HKe.out.trans k79 (by simp))
 have HDf := hide (HDe.out.kept0 k79)
 have HC10 := hide (show c < b10 from by have := HCCe.out.lt; have := hk8.size; omega)
 clear hk8 k9 m10 k79 HCCe HM6e HM7e HGe HKe HDe
 go_wp2_with fail
 refine (cwalk_any F1 D1 HRG.out.reads.ok c d g _ _ _ 2 8 r q 24 _ _ _ 9 _ HRG.out.logs (by simp) (by simp) HCCf.out HGf.out HDf.out.a HC.out.2.1 (fun hm => HC.out.2.2 (by simp [hm]))).mono ?_
 rintro e wA ⟨A, cp, xs, rfl, hcp, hvs, hfn, hcc, hkA⟩
 obtain ⟨_, _, _, _, _, _, _, hx1, _, hf1⟩ := hfn
 obtain ⟨_, _, _, _, _, _, _, hx2, _, hf2⟩ := hf1
 obtain ⟨_, _, _, _, _, _, _, hx3, _, hf3⟩ := hf2
 rw [hx2, hx3] at hx1
 obtain ⟨ad, rfl, _, hq20⟩ := hvs 20 (.int .i64 p3.s) (by rw [hx1]; rfl)
 obtain ⟨_, e21, _, hq21⟩ := hvs 21 (.int .i64 p3.o) (by rw [hx1]; rfl)
 cases e21
 rw [H36.out, add_pos ad 20 (by omega)] at hq20
 rw [H31.out, add_pos ad 21 (by omega)] at hq21
 have HQ20 := hide hq20
 have HQ21 := hide hq21
 have HCCg := hide hcc
 have HM6g := hide (hkA.blk HM6f.out (by have h1 := HC.out.1; have h2 := HGB.out; simp; omega))
 have HM7g := hide (hkA.blk HM7f.out (by have h1 := HC.out.1; simp; omega))
 have HM10g := hide (hkA.blk HM10.out (by have h1 := HC10.out; simp; omega))
 have HKg := hide (HKf.out.trans hkA (fun i hi => by simp at hi; subst hi; exact .inr (by have h1 := HC.out.1; have h2 := HGB.out; have h3 := HFB.out; omega)))
 clear hvs hx1 hx2 hx3 hf3 hcc hkA HCCf HM6f HM7f HM10 HKf hq20 hq21 HGf HDf hw9
 have HALL := hide (show ∀ W, Kept [] wA W → (fun W => Kept [] wA W ∧ (W.cell? ⟨b6, 0, none⟩ = some (.int .i64 2) ∧ W.cell? ⟨b6, 1, none⟩ = some (.int .i64 0) ∧ W.cell? ⟨b6, 2, none⟩ = some (.int .i64 5) ∧ W.cell? ⟨b6, 3, none⟩ = some (.int .i64 9) ∧ W.cell? ⟨b6, 4, none⟩ = some (.int .i64 1)) ∧ (W.cell? ⟨b10, 0, none⟩ = some (.int .i64 2) ∧ W.cell? ⟨b10, 1, none⟩ = some (.int .i64 0) ∧ W.cell? ⟨b10, 2, none⟩ = some (.int .i64 5) ∧ W.cell? ⟨b10, 3, none⟩ = some (.int .i64 9) ∧ W.cell? ⟨b10, 4, none⟩ = some (.int .i64 1)) ∧ (W.cell? ⟨b7, 0, none⟩ = some (.int .i64 E.s) ∧ W.cell? ⟨b7, 1, none⟩ = some (.int .i64 E.o) ∧ W.cell? ⟨b7, 2, none⟩ = some (.int .i64 E.l) ∧ W.cell? ⟨b7, 3, none⟩ = some (.int .i64 E.v) ∧ W.cell? ⟨b7, 4, none⟩ = some (.int .i64 E.m)) ∧ W.cell? ⟨ad.block, ad.off + 20, none⟩ = some (.int .i64 6) ∧ W.cell? ⟨ad.block, ad.off + 20 + 1, none⟩ = some (.int .i64 1)) W from fun W k => ⟨k, cell5 (k.blk HM6g.out (by simp)), cell5 (k.blk HM10g.out (by simp)), cell5 (k.blk HM7g.out (by simp)), k.cell HQ20.out (by simp), k.cell HQ21.out (by simp)⟩)
 have heq1 : ∀ W : World, (binOp .eql 24 (.agg #[.int .i64 2, .int .i64 0, .int .i64 5, .int .i64 9, .int .i64 1]) (.agg #[.int .i64 2, .int .i64 0, .int .i64 5, .int .i64 9, .int .i64 1])).run Tryz.prog W = .ok (.bool true) W := fun W => by
  have := eql_pos ⟨2, 0, 5, 9, 1⟩ ⟨2, 0, 5, 9, 1⟩ W
  simpa using this
 have heq2 : ∀ W : World, (binOp .eql 24 (.agg #[.int .i64 E.s, .int .i64 E.o, .int .i64 E.l, .int .i64 E.v, .int .i64 E.m]) (.agg #[.int .i64 E.s, .int .i64 E.o, .int .i64 E.l, .int .i64 E.v, .int .i64 E.m])).run Tryz.prog W = .ok (.bool true) W := fun W => by
  have := eql_pos E E W
  simpa using this
 simp only [List.length_cons, List.length_nil, Nat.zero_add, Nat.reduceAdd] at hcp ⊢
 go_wp2
 refine wp_region_noPanic ?_
 refine wp_region_held_drew (S := fun W => Kept [] wA W ∧ (W.cell? ⟨b6, 0, none⟩ = some (.int .i64 2) ∧ W.cell? ⟨b6, 1, none⟩ = some (.int .i64 0) ∧ W.cell? ⟨b6, 2, none⟩ = some (.int .i64 5) ∧ W.cell? ⟨b6, 3, none⟩ = some (.int .i64 9) ∧ W.cell? ⟨b6, 4, none⟩ = some (.int .i64 1)) ∧ (W.cell? ⟨b10, 0, none⟩ = some (.int .i64 2) ∧ W.cell? ⟨b10, 1, none⟩ = some (.int .i64 0) ∧ W.cell? ⟨b10, 2, none⟩ = some (.int .i64 5) ∧ W.cell? ⟨b10, 3, none⟩ = some (.int .i64 9) ∧ W.cell? ⟨b10, 4, none⟩ = some (.int .i64 1)) ∧ (W.cell? ⟨b7, 0, none⟩ = some (.int .i64 E.s) ∧ W.cell? ⟨b7, 1, none⟩ = some (.int .i64 E.o) ∧ W.cell? ⟨b7, 2, none⟩ = some (.int .i64 E.l) ∧ W.cell? ⟨b7, 3, none⟩ = some (.int .i64 E.v) ∧ W.cell? ⟨b7, 4, none⟩ = some (.int .i64 E.m)) ∧ W.cell? ⟨ad.block, ad.off + 20, none⟩ = some (.int .i64 6) ∧ W.cell? ⟨ad.block, ad.off + 20 + 1, none⟩ = some (.int .i64 1)) (by kernel_rfl) (by exact HALL.out _ ((Kept.refl [] wA).drew)) (fun hHeld => ?_)
 refine tK 0 59 rfl ?_
 try simp only [Act.put, pA, pB, pC]
 refine tK 1 60 rfl ?_
 try simp only [Act.put, pA, pB, pC]
 refine tK 2 61 rfl ?_
 try simp only [Act.put, pA, pB, pC]
 refine tK 3 62 rfl ?_
 try simp only [Act.put, pA, pB, pC]
 refine tK 4 63 rfl ?_
 try simp only [Act.put, pA, pB, pC]
 refine tK 5 64 rfl ?_
 try simp only [Act.put, pA, pB, pC]
 refine tK 6 65 rfl ?_
 try simp only [Act.put, pA, pB, pC]
 refine tK 7 66 rfl ?_
 try simp only [Act.put, pA, pB, pC]
 refine tK 8 67 rfl ?_
 try simp only [Act.put, pA, pB, pC]
 refine tK 9 68 rfl ?_
 try simp only [Act.put, pA, pB, pC]
 refine tK 10 69 rfl ?_
 try simp only [Act.put, pA, pB, pC]
 refine tK 11 70 rfl ?_
 try simp only [Act.put, pA, pB, pC]
 refine tK 12 71 rfl ?_
 try simp only [Act.put, pA, pB, pC]
 refine tK 13 72 rfl ?_
 try simp only [Act.put, pA, pB, pC]
 refine tK 14 73 rfl ?_
 try simp only [Act.put, pA, pB, pC]
 refine tK 15 74 rfl ?_
 try simp only [Act.put, pA, pB, pC]
 refine tK 16 75 rfl ?_
 try simp only [Act.put, pA, pB, pC]
 refine tK 17 76 rfl ?_
 try simp only [Act.put, pA, pB, pC]
 refine tK 18 77 rfl ?_
 try simp only [Act.put, pA, pB, pC]
 refine tK 19 78 rfl ?_
 try simp only [Act.put, pA, pB, pC]
 refine tK 20 79 rfl ?_
 try simp only [Act.put, pA, pB, pC]
 refine tK 21 80 rfl ?_
 try simp only [Act.put, pA, pB, pC]
 refine tK 22 81 rfl ?_
 try simp only [Act.put, pA, pB, pC]
 refine tK 23 82 rfl ?_
 try simp only [Act.put, pA, pB, pC]
 refine tK 24 83 rfl ?_
 try simp only [Act.put, pA, pB, pC]
 refine tK 25 84 rfl ?_
 try simp only [Act.put, pA, pB, pC]
 refine tK 27 86 rfl ?_
 try simp only [Act.put, pA, pB, pC]
 refine hO 26 (some 85) rfl fun K hK => ?_
 go_simp
 refine (cend_any c d g _ _ _ _ (HCCg.out.kept hHeld.1 (by simp))).mono ?_
 rintro e wB ⟨rfl, hkB⟩
 have HB := hide (hHeld.1.trans hkB (by simp))
 unfold Ps.val
 refine hK.out _ _ (by exact HALL.out _ HB.out) (fun hHeld => ?_)
 clear hK K
 try simp only [Act.put, pA, pB, pC]
 refine tK 28 87 rfl ?_
 try simp only [Act.put, pA, pB, pC]
 refine tK 29 88 rfl ?_
 try simp only [Act.put, pA, pB, pC]
 refine tK 30 89 rfl ?_
 try simp only [Act.put, pA, pB, pC]
 refine tK 31 90 rfl ?_
 try simp only [Act.put, pA, pB, pC]
 refine hO 32 (some 91) rfl fun K hK => ?_
 go_simp
 refine (cerr_any c d g _ _ _ _ (HCCg.out.kept HB.out (by simp))).mono ?_
 rintro e wC ⟨rfl, rfl⟩
 refine hK.out _ _ (by exact HALL.out _ HB.out) (fun hHeld => ?_)
 clear hK K
 try simp only [Act.put, pA, pB, pC]
 refine tK 33 92 rfl ?_
 try simp only [Act.put, pA, pB, pC]
 refine tK 34 93 rfl ?_
 try simp only [Act.put, pA, pB, pC]
 refine tK 35 94 rfl ?_
 try simp only [Act.put, pA, pB, pC]
 refine tK 36 95 rfl ?_
 try simp only [Act.put, pA, pB, pC]
 refine hO 37 (some 96) rfl fun K hK => ?_
 go_simp
 refine (cerr_nil _).mono ?_
 rintro e wC ⟨rfl, rfl⟩
 refine hK.out _ _ (by exact HALL.out _ HB.out) (fun hHeld => ?_)
 clear hK K
 try simp only [Act.put, pA, pB, pC]
 refine tK 38 97 rfl ?_
 try simp only [Act.put, pA, pB, pC]
 refine tK 39 98 rfl ?_
 try simp only [Act.put, pA, pB, pC]
 refine tK 40 99 rfl ?_
 try simp only [Act.put, pA, pB, pC]
 refine tK 41 100 rfl ?_
 try simp only [Act.put, pA, pB, pC]
 refine hO 42 (some 101) rfl fun K hK => ?_
 go_simp
 refine (cwalk_none 3 _).mono ?_
 rintro e wC ⟨c9, rfl, hkC⟩
 have HC2 := hide (HB.out.trans hkC (by simp))
 refine hK.out _ _ (by exact HALL.out _ HC2.out) (fun hHeld => ?_)
 clear hK K
 try simp only [Act.put, pA, pB, pC]
 refine tK 43 102 rfl ?_
 try simp only [Act.put, pA, pB, pC]
 refine tK 44 103 rfl ?_
 try simp only [Act.put, pA, pB, pC]
 refine tK 45 104 rfl ?_
 try simp only [Act.put, pA, pB, pC]
 refine tK 46 0 rfl ?_
 try simp only [Act.put, pA, pB, pC]
 refine wpAnyH_done (by kernel_rfl) ?_ _
 refine NoPanic.normal ?_
 go_wp2
 go_ret
 exact ⟨rfl, HKg.out.trans HC2.out (by simp)⟩
end Go.Proofs.YtgifeilmidpkeaaGreat.sc
