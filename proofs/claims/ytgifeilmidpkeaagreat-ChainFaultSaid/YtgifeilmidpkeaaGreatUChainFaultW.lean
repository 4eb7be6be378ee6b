import Derived.Test.YtgifeilmidpkeaaGreatUChainFaultMath
namespace Go.Proofs.YtgifeilmidpkeaaGreat.sc
set_option linter.unusedSimpArgs false
set_option linter.unusedVariables false
open Go.RowKit mem base disk owns geom
open record (Rc RcIn RcAt put5 put5_kept cell5)
structure Fx (w3 W : World) (F G F1 G1 : List Nat) (d rd : Nat) (D : Dk) (o : Option Nat) : Prop where
 dd : Dd W F1 d G1 rd D
 kept : Kept (F ++ G) w3 W
 sub : ∀ i ∈ F1 ++ G1, i ∈ F ++ G ∨ w3.heap.size ≤ i
 bx : ∀ i, o = some i → Blk W i 24 #[.int .i64 0, .int .i64 0, .int .i64 0, .int .i64 0, .int .i64 0] ∧ i ∉ F1 ++ G1 ∧ w3.heap.size ≤ i
theorem Fx.a {w3 W : World} {F G F1 G1 : List Nat} {d rd : Nat} {D : Dk} (h : Fx w3 W F G F1 G1 d rd D none) : Fx w3 (W.alloc (.cells #[.int .i64 0, .int .i64 0, .int .i64 0, .int .i64 0, .int .i64 0] 24)) F G F1 G1 d rd D (some W.heap.size) :=
 ⟨h.dd.kept0 ((Kept.refl [] W).alloc _), h.kept.trans ((Kept.refl [] W).alloc _) (by simp), h.sub, fun i hi => by
  injection hi with hi
  subst hi
  exact ⟨Blk.new W _ _, fun hm => by have := h.dd.lt _ hm; omega, h.kept.size⟩⟩
theorem Fx.c {w3 W W' : World} {F G F1 G1 : List Nat} {d rd : Nat} {D E : Dk} {o : Option Nat} (h : Fx w3 W F G F1 G1 d rd D o) (t : DdTo W W' F1 d G1 rd E) : ∃ F2 G2, Fx w3 W' F G F2 G2 d rd E o := by
 obtain ⟨F2, G2, h1, h2, h3⟩ := t
 have hs := h.kept.size
 refine ⟨F2, G2, h1, h.kept.trans h3 (fun i hi => (h.sub i hi).imp id id), fun i hi => (h2 i hi).elim (fun g => h.sub i g) (fun g => .inr (by omega)), fun i hi => ?_⟩
 obtain ⟨g1, g2, g3⟩ := h.bx i hi
 exact ⟨h3.blk g1 g2, fun hm => (h2 i hm).elim g2 (fun h4 => by have := g1.lt; omega), g3⟩
theorem Fx.ex {w3 W : World} {F G F1 G1 : List Nat} {d rd : Nat} {D : Dk} {o : Option Nat} (h : Fx w3 W F G F1 G1 d rd D o) : ∃ wm, W = wm ∧ Fx w3 wm F G F1 G1 d rd D o := ⟨W, rfl, h⟩
theorem Fx.put {w3 W W' : World} {F G F1 G1 : List Nat} {d rd i : Nat} {D : Dk} {o : Option Nat} (h : Fx w3 W F G F1 G1 d rd D o) (k : Kept [i] W W') (hi : i ∉ F1 ++ G1 ∧ w3.heap.size ≤ i) : Fx w3 W' F G F1 G1 d rd D none :=
 ⟨h.dd.kept k (fun x hx hm => by simp at hm; subst hm; exact hi.1 (by simp [hx])) (fun x hx hm => by simp at hm; subst hm; exact hi.1 (by simp [hx])), h.kept.trans k (fun x hx => by simp at hx; subst hx; exact .inr hi.2), h.sub, by simp⟩
set_option maxRecDepth 100000 in
set_option maxHeartbeats 8000000 in
theorem fault_any (x0 x1 x2 : Int) (w : World) : Calls Tryz.prog 6 #[.int .i64 x0, .int .i64 x1, .int .i64 x2] w fun e w' => e = .returned (.bool true) ∧ Kept [] w w' := by
 obtain ⟨b1, hb1⟩ : ∃ b1, w.heap.size = b1 := ⟨_, rfl⟩
 obtain ⟨w1, hw1⟩ : ∃ w1, w.alloc (.cells #[.int .i64 3, .int .i64 8, .int .i64 24] 29) = w1 := ⟨_, rfl⟩
 have k1 : Kept [] w w1 := by rw [← hw1]; exact (Kept.refl [] w).alloc _
 have m1 : Blk w1 b1 29 #[.int .i64 3, .int .i64 8, .int .i64 24] := by rw [← hw1, ← hb1]; exact Blk.new w _ _
 have HK1 := hide k1
 have HM1 := hide m1
 have HSZ := hide (show w.heap.size ≤ b1 by omega)
 obtain ⟨c0, c1, c2⟩ : w1.cell? ⟨b1, 0, none⟩ = some (.int .i64 3) ∧ w1.cell? ⟨b1, 1, none⟩ = some (.int .i64 8) ∧ w1.cell? ⟨b1, 2, none⟩ = some (.int .i64 24) := ⟨m1.cell 0, m1.cell 1, m1.cell 2⟩
 clear k1 m1
 go_enter Tryz.func6, Tryz.ntmps6
 go_wp2_with fail
 refine (cdesk_any 3 8 24 _ (by unfold geom.Ok; omega)).mono ?_
 rintro e w2 ⟨F, d, G, rd, g, n, r, q, rfl, hdk⟩
 have HDK := hide hdk
 clear hdk
 obtain ⟨k, hk⟩ : ∃ k : Nat, 1 + x0 % 30 = (k : Int) := ⟨(1 + x0 % 30).toNat, by omega⟩
 obtain ⟨e, he⟩ : ∃ e : Nat, 6 + x1 % 8 = (e : Int) := ⟨(6 + x1 % 8).toNat, by omega⟩
 have hk40 : 1 ≤ k ∧ k ≤ 30 := by omega
 have he15 : 6 ≤ e ∧ e ≤ 13 := by omega
 have hwk : IntKind.i64.wrap (1 + x0 % 30) = (k : Int) := by rw [IntWalk.i64_in _ (by omega)]; exact hk
 have hwe : IntKind.i64.wrap (6 + x1 % 8) = (e : Int) := by rw [IntWalk.i64_in _ (by omega)]; exact he
 have HRA := hide (fun W => round_any x0 30 W (by omega) (by omega))
 have HRB := hide (fun W => round_any x1 8 W (by omega) (by omega))
 clear hk he
 obtain ⟨b6, hb6⟩ : ∃ b6, w2.heap.size = b6 := ⟨_, rfl⟩
 obtain ⟨w3, hw3⟩ : ∃ w3, w2.alloc (.cells #[.int .i64 5, .int .i64 0, .int .i64 1, .int .i64 0, .int .i64 1] 24) = w3 := ⟨_, rfl⟩
 have k3 : Kept [] w2 w3 := by rw [← hw3]; exact (Kept.refl [] w2).alloc _
 have m6 : Blk w3 b6 24 #[.int .i64 5, .int .i64 0, .int .i64 1, .int .i64 0, .int .i64 1] := by rw [← hw3, ← hb6]; exact Blk.new w2 _ _
 have hbd := HDK.out.geo.bounds
 have hok := HDK.out.geo.ok
 have hnn := HDK.out.hn
 have hrq : 0 ≤ r ∧ 0 ≤ q := by omega
 have hn4 : n ≤ 4096 := by omega
 obtain ⟨L, hrg, hLn, hEs⟩ := ring_told hrq n hnn hn4 ⟨5, 0, 1, 0, 1⟩ (by decide) rfl (by decide) (by decide) (by decide) k e (by omega) (by omega)
 obtain ⟨E, hE⟩ : ∃ E, (laidP 8 24 r q (Dk.new n) ⟨5, 0, 1, 0, 1⟩ (ringL e 8 k 5)).2 = E := ⟨_, rfl⟩
 obtain ⟨D1, hD1⟩ : ∃ D1, (laidP 8 24 r q (Dk.new n) ⟨5, 0, 1, 0, 1⟩ (ringL e 8 k 5)).1 = D1 := ⟨_, rfl⟩
 dsimp only at hrg hEs
 rw [hD1, hE] at hrg
 have hT5 : (k - 1) / e ≤ 4 := Nat.le_of_lt_succ (Nat.div_lt_of_lt_mul (by omega))
 obtain ⟨m, hm⟩ : ∃ m, L.length = m := ⟨_, rfl⟩
 generalize (k - 1) / e = TT at hLn hEs hT5
 have hm40 : 1 ≤ m ∧ m ≤ 40 := by omega
 clear hLn hEs hT5
 have hres := Int.emod_nonneg x2 (show ((m : Int) + 1) ≠ 0 by omega)
 have hres2 := Int.emod_lt_of_pos x2 (show (0 : Int) < (m : Int) + 1 by omega)
 obtain ⟨j, hj⟩ : ∃ j : Nat, x2 % ((m : Int) + 1) = (j : Int) := ⟨(x2 % ((m : Int) + 1)).toNat, by omega⟩
 have hjm : j ≤ m := by omega
 obtain ⟨t, T, E2, htn, htw, htT, hTs, hTo, hlog⟩ := hrg.fault hrq (by omega) (by decide) (fun h => by rw [h] at hm; simp at hm; omega) j (by omega)
 have HTW := hide htw
 have HTT := hide htT
 have HTN := hide htn
 have HLOG := hide hlog
 have HM := hide hm
 have HE := sealed hE
 have HD1E := sealed hD1
 have HRG := hide hrg
 have HRF := hide HDK.out.geo.rf
 have HG := hide (HDK.out.geo.kept k3)
 have HM6 := hide m6
 have HM1b := hide (k3.blk (HDK.out.kept.blk HM1.out (by simp)) (by simp))
 have HK3 := hide ((HK1.out.trans HDK.out.kept (by simp)).trans k3 (by simp))
 have HDD := hide (HDK.out.dd.kept0 k3)
 have HFG := hide (show ∀ x ∈ F ++ G, b1 < x ∧ x < b6 from fun x hx => by
  have h1 := HDK.out.new x hx
  have h2 := HDK.out.old
  have h3 := HM1.out.lt
  have h4 := HDK.out.dd.lt x hx
  omega)
 have HFB := hide (show w.heap.size ≤ b6 from by have h1 := HM1.out.lt; have h2 := HDK.out.kept.size; omega)
 have HGL := hide (show g < b6 from by have := HDK.out.geo.lt; omega)
 have HGF := hide (show g ∉ F ++ G from fun hm => by have := HDK.out.new g hm; omega)
 have HN1 := hide (show 1 ≤ n ∧ n ≤ 4096 by omega)
 have HNN := hide (show (2 + 2 * r + 4 * q + 8 * 24 : Int) = n by omega)
 have HW3 := hide (show b6 < w3.heap.size from HM6.out.lt)
 have HAP0 := hide (show ∀ y, (y = b1 ∨ y = b6 ∨ y = g) → y ∉ F ++ G from fun y hy hm => by
  have h3 := HFG.out y hm
  rcases hy with rfl | rfl | rfl
  ·omega
  ·omega
  ·exact HGF.out hm)
 have HR : Hid (Fx w3 w3.drew F G F G d rd (Dk.new n) none) := hide ⟨HDD.out.kept0 (Kept.refl [] w3).drew, (Kept.refl _ w3).drew, fun i hi => .inl hi, by simp⟩
 have HALL := hide (show ∀ W F1 G1 D o, Fx w3 W F G F1 G1 d rd D o → (fun W => (W.cell? ⟨b1, 0, none⟩ = some (.int .i64 3) ∧ W.cell? ⟨b1, 1, none⟩ = some (.int .i64 8) ∧ W.cell? ⟨b1, 2, none⟩ = some (.int .i64 24)) ∧ (W.cell? ⟨b6, 0, none⟩ = some (.int .i64 5) ∧ W.cell? ⟨b6, 1, none⟩ = some (.int .i64 0) ∧ W.cell? ⟨b6, 2, none⟩ = some (.int .i64 1) ∧ W.cell? ⟨b6, 3, none⟩ = some (.int .i64 0) ∧ W.cell? ⟨b6, 4, none⟩ = some (.int .i64 1))) W from fun W F1 G1 D o h => by
  have h1 := h.kept.blk HM1b.out (HAP0.out _ (.inl rfl))
  have h2 := h.kept.blk HM6.out (HAP0.out _ (.inr (.inl rfl)))
  exact ⟨⟨h1.cell 0, h1.cell 1, h1.cell 2⟩, cell5 h2⟩)
 clear hD1 hE k3 m6 hbd hok hnn hn4 hrg HM1 HK1 HDK hw1 c0 c1 c2 htw htT htn hlog hm
 go_wp2
 go_cut [13, 11] from 31 to 45 (fun p13 p11 wx => ∃ (b13 : Nat) (F2 G2 : List Nat), p13 = .pointer (some ⟨b13, 0, none⟩) ∧ p11 = .bool true ∧ Hid (Fx w3 wx F G F2 G2 d rd D1 none) ∧ Hid (Blk wx b13 24 #[.int .i64 E.s, .int .i64 E.o, .int .i64 E.l, .int .i64 E.v, .int .i64 E.m]) ∧ Hid (b13 ∉ F2 ++ G2 ∧ w3.heap.size ≤ b13))
 case first =>
  refine wp_region_noPanic ?_
  refine wp_region_held_drew (S := fun W => (W.cell? ⟨b1, 0, none⟩ = some (.int .i64 3) ∧ W.cell? ⟨b1, 1, none⟩ = some (.int .i64 8) ∧ W.cell? ⟨b1, 2, none⟩ = some (.int .i64 24)) ∧ (W.cell? ⟨b6, 0, none⟩ = some (.int .i64 5) ∧ W.cell? ⟨b6, 1, none⟩ = some (.int .i64 0) ∧ W.cell? ⟨b6, 2, none⟩ = some (.int .i64 1) ∧ W.cell? ⟨b6, 3, none⟩ = some (.int .i64 0) ∧ W.cell? ⟨b6, 4, none⟩ = some (.int .i64 1))) (by kernel_rfl) (by exact HALL.out _ _ _ _ _ HR.out) (fun hHeld => ?_)
  refine tK 0 32 ?v1 rfl ?hy1 ?_
  case hy1 => intro W h; (try dsimp only at h); go_simp; try with_reducible rfl
  try simp only [Act.put, pA, pB, pC]
  refine tK 1 33 ?v2 rfl ?hy2 ?_
  case hy2 => intro W h; (try dsimp only at h); go_simp; try with_reducible rfl
  try simp only [Act.put, pA, pB, pC]
  refine tK 2 34 ?v3 rfl ?hy3 ?_
  case hy3 => intro W h; (try dsimp only at h); go_simp; try with_reducible rfl
  try simp only [Act.put, pA, pB, pC]
  refine tK 3 35 ?v4 rfl ?hy4 ?_
  case hy4 => intro W h; (try dsimp only at h); go_simp; try with_reducible rfl
  try simp only [Act.put, pA, pB, pC]
  refine tK 4 36 ?v5 rfl ?hy5 ?_
  case hy5 => intro W h; (try dsimp only at h); go_simp; try with_reducible rfl
  try simp only [Act.put, pA, pB, pC]
  refine tK 7 39 ?v6 rfl ?hy6 ?_
  case hy6 => intro W h; (try dsimp only at h); go_simp; try with_reducible rfl
  try simp only [Act.put, pA, pB, pC]
  refine next_two (i := 5) (j := 14) (o := ⟨some 37, _, _, _, _, _⟩) (o' := ⟨some 13, _, _, _, _, _⟩) (by kernel_rfl) rfl (by rfl) rfl (by rfl) (fun K hK => ?_) (fun K hK => ?_)
  ·(try generalize w3.drew = wd at HR hHeld ⊢)
   go_simp
   refine (HRA.out _).mono ?_
   rintro e1 w2' ⟨rfl, rfl⟩
   refine hK _ _ (by exact HALL.out _ _ _ _ _ HR.out) ?_
   have hHeld := HALL.out _ _ _ _ _ HR.out
   clear hK K
   try simp only [Act.put, pA, pB, pC]
   refine tK 6 38 ?v7 rfl ?hy7 ?_
   case hy7 => intro W h; (try dsimp only at h); go_simp; try with_reducible rfl
   try simp only [Act.put, pA, pB, pC]
   refine next_two (i := 8) (j := 14) (o := ⟨some 40, _, _, _, _, _⟩) (o' := ⟨some 13, _, _, _, _, _⟩) (by kernel_rfl) rfl (by rfl) rfl (by rfl) (fun K hK => ?_) (fun K hK => ?_)
   ·(try generalize w3.drew = wd at HR hHeld ⊢)
    go_simp
    refine (HRB.out _).mono ?_
    rintro e1 w2' ⟨rfl, rfl⟩
    refine hK _ _ (by exact HALL.out _ _ _ _ _ HR.out) ?_
    have hHeld := HALL.out _ _ _ _ _ HR.out
    clear hK K
    try simp only [Act.put, pA, pB, pC]
    refine tK 9 41 ?v8 rfl ?hy8 ?_
    case hy8 => intro W h; (try dsimp only at h); go_simp; try with_reducible rfl
    try simp only [Act.put, pA, pB, pC]
    refine next_two (i := 10) (j := 14) (o := ⟨some 42, _, _, _, _, _⟩) (o' := ⟨some 13, _, _, _, _, _⟩) (by kernel_rfl) rfl (by rfl) rfl (by rfl) (fun K hK => ?_) (fun K hK => ?_)
    ·(try generalize w3.drew = wd at HR hHeld ⊢)
     go_simp
     refine (ring_any F G d rd (Dk.new n) ⟨5, 0, 1, 0, 1⟩ 3 8 24 r q k e _ HR.out.dd (Reads.new n HN1.out.1 HN1.out.2) HRF.out (by decide) (by rw [show ((Dk.new n).n : Int) = n by unfold Dk.n Dk.new; simp]; have := HNN.out; omega) (by simp [Dk.new]) (by decide) (by decide) (by decide) (by omega) (by omega) (by omega)).mono ?_
     rw [show ((8 : Int).toNat) = 8 from rfl]
     rw [HE.out, HD1E.out]
     rintro e1 wn ⟨rfl, hdd⟩
     obtain ⟨F2, G2, hg6⟩ := HR.out.c hdd
     have HR := hide hg6
     clear hdd hg6
     unfold Ps.val
     refine hK _ _ (by exact HALL.out _ _ _ _ _ HR.out) ?_
     have hHeld := HALL.out _ _ _ _ _ HR.out
     clear hK K
     try simp only [Act.put, pA, pB, pC]
     refine tK 11 31 ?v9 rfl ?hy9 ?_
     case hy9 => intro W h; (try dsimp only at h); go_simp; try with_reducible rfl
     try simp only [Act.put, pA, pB, pC]
     refine tK 12 43 ?v10 rfl ?hy10 ?_
     case hy10 => intro W h; (try dsimp only at h); go_simp; try with_reducible rfl
     try simp only [Act.put, pA, pB, pC]
     refine tK 13 44 ?v11 rfl ?hy11 ?_
     case hy11 => intro W h; (try dsimp only at h); go_simp; try with_reducible rfl
     try simp only [Act.put, pA, pB, pC]
     refine held_one (i := 14) (o := ⟨some 13, _, _, _, _, _⟩) rfl (by kernel_rfl) (by rfl) (fun K hK => ?_)
     (try generalize w3.drew = wd at HR hHeld ⊢)
     go_simp
     obtain ⟨wm, hwm, HR'⟩ := HR.out.a.ex
     rw [hwm]
     clear hwm
     have HR := hide HR'
     clear HR'
     refine hK.out _ _ (by exact HALL.out _ _ _ _ _ HR.out) (fun hHeld => ?_)
     clear hK K
     try simp only [Act.put, pA, pB, pC]
     refine held_one (i := 15) (o := ⟨none, _, _, _, _, _⟩) rfl (by kernel_rfl) (by rfl) (fun K hK => ?_)
     have g14 := HR.out.bx _ rfl
     obtain ⟨z0, z1, z2, z3, z4⟩ := cell5 g14.1
     have fz := g14.1.frozen
     go_simp
     have HQ1 := hide (put5 (.int .i64 E.s) (.int .i64 E.o) (.int .i64 E.l) (.int .i64 E.v) (.int .i64 E.m) g14.1)
     have HQ2 := hide (HR.out.put (put5_kept (S := [_]) (.int .i64 E.s) (.int .i64 E.o) (.int .i64 E.l) (.int .i64 E.v) (.int .i64 E.m) (Kept.refl [_] _) (.inl (List.mem_singleton.2 rfl))) g14.2)
     refine hK.out _ _ (by exact HALL.out _ _ _ _ _ HQ2.out) (fun hHeld => ?_)
     clear hK K
     try simp only [Act.put, pA, pB, pC]
     refine tK 16 11 ?v12 rfl ?hy12 ?_
     case hy12 => intro W h; (try dsimp only at h); go_simp; try with_reducible rfl
     try simp only [Act.put, pA, pB, pC]
     refine wpAnyH_done (by kernel_rfl) ?_ _
     refine NoPanic.normal ?_
     go_wp2_with fail
     go_meet
     exact ⟨_, F2, G2, rfl, rfl, HQ2, HQ1, hide g14.2⟩
    ·(try generalize w3.drew = wd at HR hHeld ⊢)
     go_simp
     obtain ⟨wm, hwm, HR'⟩ := HR.out.a.ex
     rw [hwm]
     clear hwm
     have HR := hide HR'
     clear HR'
     refine hK _ _ (by exact HALL.out _ _ _ _ _ HR.out) ?_
     have hHeld := HALL.out _ _ _ _ _ HR.out
     clear hK K
     try simp only [Act.put, pA, pB, pC]
     refine held_one (i := 10) (o := ⟨some 42, _, _, _, _, _⟩) rfl (by kernel_rfl) (by rfl) (fun K hK => ?_)
     (try generalize w3.drew = wd at HR hHeld ⊢)
     go_simp
     refine (ring_any F G d rd (Dk.new n) ⟨5, 0, 1, 0, 1⟩ 3 8 24 r q k e _ HR.out.dd (Reads.new n HN1.out.1 HN1.out.2) HRF.out (by decide) (by rw [show ((Dk.new n).n : Int) = n by unfold Dk.n Dk.new; simp]; have := HNN.out; omega) (by simp [Dk.new]) (by decide) (by decide) (by decide) (by omega) (by omega) (by omega)).mono ?_
     rw [show ((8 : Int).toNat) = 8 from rfl]
     rw [HE.out, HD1E.out]
     rintro e1 wn ⟨rfl, hdd⟩
     obtain ⟨F2, G2, hg6⟩ := HR.out.c hdd
     have HR := hide hg6
     clear hdd hg6
     unfold Ps.val
     refine hK.out _ _ (by exact HALL.out _ _ _ _ _ HR.out) (fun hHeld => ?_)
     clear hK K
     try simp only [Act.put, pA, pB, pC]
     refine tK 11 31 ?v13 rfl ?hy13 ?_
     case hy13 => intro W h; (try dsimp only at h); go_simp; try with_reducible rfl
     try simp only [Act.put, pA, pB, pC]
     refine tK 12 43 ?v14 rfl ?hy14 ?_
     case hy14 => intro W h; (try dsimp only at h); go_simp; try with_reducible rfl
     try simp only [Act.put, pA, pB, pC]
     refine tK 13 44 ?v15 rfl ?hy15 ?_
     case hy15 => intro W h; (try dsimp only at h); go_simp; try with_reducible rfl
     try simp only [Act.put, pA, pB, pC]
     refine held_one (i := 15) (o := ⟨none, _, _, _, _, _⟩) rfl (by kernel_rfl) (by rfl) (fun K hK => ?_)
     have g14 := HR.out.bx _ rfl
     obtain ⟨z0, z1, z2, z3, z4⟩ := cell5 g14.1
     have fz := g14.1.frozen
     go_simp
     have HQ1 := hide (put5 (.int .i64 E.s) (.int .i64 E.o) (.int .i64 E.l) (.int .i64 E.v) (.int .i64 E.m) g14.1)
     have HQ2 := hide (HR.out.put (put5_kept (S := [_]) (.int .i64 E.s) (.int .i64 E.o) (.int .i64 E.l) (.int .i64 E.v) (.int .i64 E.m) (Kept.refl [_] _) (.inl (List.mem_singleton.2 rfl))) g14.2)
     refine hK.out _ _ (by exact HALL.out _ _ _ _ _ HQ2.out) (fun hHeld => ?_)
     clear hK K
     try simp only [Act.put, pA, pB, pC]
     refine tK 16 11 ?v16 rfl ?hy16 ?_
     case hy16 => intro W h; (try dsimp only at h); go_simp; try with_reducible rfl
     try simp only [Act.put, pA, pB, pC]
     refine wpAnyH_done (by kernel_rfl) ?_ _
     refine NoPanic.normal ?_
     go_wp2_with fail
     go_meet
     exact ⟨_, F2, G2, rfl, rfl, HQ2, HQ1, hide g14.2⟩
   ·(try generalize w3.drew = wd at HR hHeld ⊢)
    go_simp
    obtain ⟨wm, hwm, HR'⟩ := HR.out.a.ex
    rw [hwm]
    clear hwm
    have HR := hide HR'
    clear HR'
    refine hK _ _ (by exact HALL.out _ _ _ _ _ HR.out) ?_
    have hHeld := HALL.out _ _ _ _ _ HR.out
    clear hK K
    try simp only [Act.put, pA, pB, pC]
    refine held_one (i := 8) (o := ⟨some 40, _, _, _, _, _⟩) rfl (by kernel_rfl) (by rfl) (fun K hK => ?_)
    (try generalize w3.drew = wd at HR hHeld ⊢)
    go_simp
    refine (HRB.out _).mono ?_
    rintro e1 w2' ⟨rfl, rfl⟩
    refine hK.out _ _ (by exact HALL.out _ _ _ _ _ HR.out) (fun hHeld => ?_)
    clear hK K
    try simp only [Act.put, pA, pB, pC]
    refine tK 9 41 ?v17 rfl ?hy17 ?_
    case hy17 => intro W h; (try dsimp only at h); go_simp; try with_reducible rfl
    try simp only [Act.put, pA, pB, pC]
    refine held_one (i := 10) (o := ⟨some 42, _, _, _, _, _⟩) rfl (by kernel_rfl) (by rfl) (fun K hK => ?_)
    (try generalize w3.drew = wd at HR hHeld ⊢)
    go_simp
    refine (ring_any F G d rd (Dk.new n) ⟨5, 0, 1, 0, 1⟩ 3 8 24 r q k e _ HR.out.dd (Reads.new n HN1.out.1 HN1.out.2) HRF.out (by decide) (by rw [show ((Dk.new n).n : Int) = n by unfold Dk.n Dk.new; simp]; have := HNN.out; omega) (by simp [Dk.new]) (by decide) (by decide) (by decide) (by omega) (by omega) (by omega)).mono ?_
    rw [show ((8 : Int).toNat) = 8 from rfl]
    rw [HE.out, HD1E.out]
    rintro e1 wn ⟨rfl, hdd⟩
    obtain ⟨F2, G2, hg6⟩ := HR.out.c hdd
    have HR := hide hg6
    clear hdd hg6
    unfold Ps.val
    refine hK.out _ _ (by exact HALL.out _ _ _ _ _ HR.out) (fun hHeld => ?_)
    clear hK K
    try simp only [Act.put, pA, pB, pC]
    refine tK 11 31 ?v18 rfl ?hy18 ?_
    case hy18 => intro W h; (try dsimp only at h); go_simp; try with_reducible rfl
    try simp only [Act.put, pA, pB, pC]
    refine tK 12 43 ?v19 rfl ?hy19 ?_
    case hy19 => intro W h; (try dsimp only at h); go_simp; try with_reducible rfl
    try simp only [Act.put, pA, pB, pC]
    refine tK 13 44 ?v20 rfl ?hy20 ?_
    case hy20 => intro W h; (try dsimp only at h); go_simp; try with_reducible rfl
    try simp only [Act.put, pA, pB, pC]
    refine held_one (i := 15) (o := ⟨none, _, _, _, _, _⟩) rfl (by kernel_rfl) (by rfl) (fun K hK => ?_)
    have g14 := HR.out.bx _ rfl
    obtain ⟨z0, z1, z2, z3, z4⟩ := cell5 g14.1
    have fz := g14.1.frozen
    go_simp
    have HQ1 := hide (put5 (.int .i64 E.s) (.int .i64 E.o) (.int .i64 E.l) (.int .i64 E.v) (.int .i64 E.m) g14.1)
    have HQ2 := hide (HR.out.put (put5_kept (S := [_]) (.int .i64 E.s) (.int .i64 E.o) (.int .i64 E.l) (.int .i64 E.v) (.int .i64 E.m) (Kept.refl [_] _) (.inl (List.mem_singleton.2 rfl))) g14.2)
    refine hK.out _ _ (by exact HALL.out _ _ _ _ _ HQ2.out) (fun hHeld => ?_)
    clear hK K
    try simp only [Act.put, pA, pB, pC]
    refine tK 16 11 ?v21 rfl ?hy21 ?_
    case hy21 => intro W h; (try dsimp only at h); go_simp; try with_reducible rfl
    try simp only [Act.put, pA, pB, pC]
    refine wpAnyH_done (by kernel_rfl) ?_ _
    refine NoPanic.normal ?_
    go_wp2_with fail
    go_meet
    exact ⟨_, F2, G2, rfl, rfl, HQ2, HQ1, hide g14.2⟩
  ·(try generalize w3.drew = wd at HR hHeld ⊢)
   go_simp
   obtain ⟨wm, hwm, HR'⟩ := HR.out.a.ex
   rw [hwm]
   clear hwm
   have HR := hide HR'
   clear HR'
   refine hK _ _ (by exact HALL.out _ _ _ _ _ HR.out) ?_
   have hHeld := HALL.out _ _ _ _ _ HR.out
   clear hK K
   try simp only [Act.put, pA, pB, pC]
   refine held_one (i := 5) (o := ⟨some 37, _, _, _, _, _⟩) rfl (by kernel_rfl) (by rfl) (fun K hK => ?_)
   (try generalize w3.drew = wd at HR hHeld ⊢)
   go_simp
   refine (HRA.out _).mono ?_
   rintro e1 w2' ⟨rfl, rfl⟩
   refine hK.out _ _ (by exact HALL.out _ _ _ _ _ HR.out) (fun hHeld => ?_)
   clear hK K
   try simp only [Act.put, pA, pB, pC]
   refine tK 6 38 ?v22 rfl ?hy22 ?_
   case hy22 => intro W h; (try dsimp only at h); go_simp; try with_reducible rfl
   try simp only [Act.put, pA, pB, pC]
   refine held_one (i := 8) (o := ⟨some 40, _, _, _, _, _⟩) rfl (by kernel_rfl) (by rfl) (fun K hK => ?_)
   (try generalize w3.drew = wd at HR hHeld ⊢)
   go_simp
   refine (HRB.out _).mono ?_
   rintro e1 w2' ⟨rfl, rfl⟩
   refine hK.out _ _ (by exact HALL.out _ _ _ _ _ HR.out) (fun hHeld => ?_)
   clear hK K
   try simp only [Act.put, pA, pB, pC]
   refine tK 9 41 ?v23 rfl ?hy23 ?_
   case hy23 => intro W h; (try dsimp only at h); go_simp; try with_reducible rfl
   try simp only [Act.put, pA, pB, pC]
   refine held_one (i := 10) (o := ⟨some 42, _, _, _, _, _⟩) rfl (by kernel_rfl) (by rfl) (fun K hK => ?_)
   (try generalize w3.drew = wd at HR hHeld ⊢)
   go_simp
   refine (ring_any F G d rd (Dk.new n) ⟨5, 0, 1, 0, 1⟩ 3 8 24 r q k e _ HR.out.dd (Reads.new n HN1.out.1 HN1.out.2) HRF.out (by decide) (by rw [show ((Dk.new n).n : Int) = n by unfold Dk.n Dk.new; simp]; have := HNN.out; omega) (by simp [Dk.new]) (by decide) (by decide) (by decide) (by omega) (by omega) (by omega)).mono ?_
   rw [show ((8 : Int).toNat) = 8 from rfl]
   rw [HE.out, HD1E.out]
   rintro e1 wn ⟨rfl, hdd⟩
   obtain ⟨F2, G2, hg6⟩ := HR.out.c hdd
   have HR := hide hg6
   clear hdd hg6
   unfold Ps.val
   refine hK.out _ _ (by exact HALL.out _ _ _ _ _ HR.out) (fun hHeld => ?_)
   clear hK K
   try simp only [Act.put, pA, pB, pC]
   refine tK 11 31 ?v24 rfl ?hy24 ?_
   case hy24 => intro W h; (try dsimp only at h); go_simp; try with_reducible rfl
   try simp only [Act.put, pA, pB, pC]
   refine tK 12 43 ?v25 rfl ?hy25 ?_
   case hy25 => intro W h; (try dsimp only at h); go_simp; try with_reducible rfl
   try simp only [Act.put, pA, pB, pC]
   refine tK 13 44 ?v26 rfl ?hy26 ?_
   case hy26 => intro W h; (try dsimp only at h); go_simp; try with_reducible rfl
   try simp only [Act.put, pA, pB, pC]
   refine held_one (i := 15) (o := ⟨none, _, _, _, _, _⟩) rfl (by kernel_rfl) (by rfl) (fun K hK => ?_)
   have g14 := HR.out.bx _ rfl
   obtain ⟨z0, z1, z2, z3, z4⟩ := cell5 g14.1
   have fz := g14.1.frozen
   go_simp
   have HQ1 := hide (put5 (.int .i64 E.s) (.int .i64 E.o) (.int .i64 E.l) (.int .i64 E.v) (.int .i64 E.m) g14.1)
   have HQ2 := hide (HR.out.put (put5_kept (S := [_]) (.int .i64 E.s) (.int .i64 E.o) (.int .i64 E.l) (.int .i64 E.v) (.int .i64 E.m) (Kept.refl [_] _) (.inl (List.mem_singleton.2 rfl))) g14.2)
   refine hK.out _ _ (by exact HALL.out _ _ _ _ _ HQ2.out) (fun hHeld => ?_)
   clear hK K
   try simp only [Act.put, pA, pB, pC]
   refine tK 16 11 ?v27 rfl ?hy27 ?_
   case hy27 => intro W h; (try dsimp only at h); go_simp; try with_reducible rfl
   try simp only [Act.put, pA, pB, pC]
   refine wpAnyH_done (by kernel_rfl) ?_ _
   refine NoPanic.normal ?_
   go_wp2_with fail
   go_meet
   exact ⟨_, F2, G2, rfl, rfl, HQ2, HQ1, hide g14.2⟩
 case rest =>
  obtain ⟨b13, F1, G1, rfl, rfl, HFX, HM13, HN13⟩ := hcut
  clear HR HALL HRA HRB
  have HM6c := hide (HFX.out.kept.blk HM6.out (HAP0.out _ (.inr (.inl rfl))))
  have HGc := hide (HG.out.kept HFX.out.kept (HAP0.out _ (.inr (.inr rfl))))
  have HKc := hide (HK3.out.trans HFX.out.kept (fun i hi => .inr (by have := HFG.out i hi; have := HSZ.out; omega)))
  have HF1 := hide (show ∀ i ∈ F1 ++ G1, i < wc.heap.size ∧ i ≠ g ∧ i ≠ b13 ∧ w.heap.size ≤ i from fun i hi => by
   refine ⟨HFX.out.dd.lt i hi, fun he => ?_, fun he => HN13.out.1 (he ▸ hi), ?_⟩
   ·subst he
    rcases HFX.out.sub i hi with h | h
    ·exact HGF.out h
    ·have h1 := HGL.out; have h2 := HW3.out; omega
   ·rcases HFX.out.sub i hi with h | h
    ·have := HFG.out i h; have := HSZ.out; omega
    ·have h1 := HK3.out.size; omega)
  have HGB := hide (show g < b6 ∧ b6 < b13 ∧ b13 < wc.heap.size from ⟨HGL.out, by have h1 := HW3.out; have h2 := HN13.out.2; omega, HM13.out.lt⟩)
  have HDc := hide HFX.out.dd
  clear HFX HN13 HM1b HM6 HG HK3 HDD hw3 HW3
  obtain ⟨p0, p1', p2', p3', p4'⟩ := cell5 HM6c.out
  go_wp2_with fail
  refine (cnew_any d g ⟨5, 0, 1, 0, 1⟩ _).mono ?_
  rintro e1 w6 ⟨c, rfl, hc, hcc, hk6⟩
  have HCC := hide hcc
  have HC := hide (show wc.heap.size ≤ c ∧ c ≠ g ∧ c ∉ F1 ++ G1 from by
   exact ⟨hc, by have := HGB.out; omega, fun hm => by have := HF1.out c hm; omega⟩)
  have HM13d := hide (hk6.blk HM13.out (by simp))
  have HGd := hide (HGc.out.kept hk6)
  have HKd := hide (HKc.out.trans hk6 (by simp))
  have HDd := hide (HDc.out.kept0 hk6)
  have HFD := hide (show d ∈ F1 from HDd.out.a.mem)
  clear hc hcc hk6 p0 p1' p2' p3' p4' HM6c HGc HKc HM13 HDc
  go_wp2_with fail
  refine (cwalk_any F1 D1 HRG.out.reads.ok c d g _ _ _ 3 8 r q 24 L E 0 99 _ HRG.out.logs (by have := HM.out; omega) (by have := HM.out; omega) HCC.out HGd.out HDd.out.a HC.out.2.1 (fun hm => HC.out.2.2 (by simp [hm]))).mono ?_
  rw [HM.out]
  rintro e1 wA ⟨A, cp, xs, rfl, hcp, hvs, hfn, hcc, hkA⟩
  have HVS := hide hvs
  have HFN := hide hfn
  have HCCg := hide hcc
  have HM13g := hide (hkA.blk HM13d.out (by have h1 := HC.out.1; have h2 := HGB.out; simp; omega))
  have HKg := hide (HKd.out.trans hkA (fun i hi => by simp at hi; subst hi; exact .inr (by have h1 := HC.out.1; have h2 := HGB.out; have h3 := HFB.out; omega)))
  have HGg := hide (HGd.out.kept hkA (by have := HC.out.2.1; simp; omega))
  have HDg := hide (HDd.out.kept hkA (fun x hx hm => by simp at hm; subst hm; exact HC.out.2.2 (by simp [hx])) (fun x hx hm => by simp at hm; subst hm; exact HC.out.2.2 (by simp [hx])))
  clear hvs hfn hcc hkA HCC HM13d HKd HGd HDd
  have hl1 : decide ((m : Int) < 1) = false := decide_eq_false (by omega)
  have hwm : IntKind.i64.wrap ((m : Int) + 1) = (m : Int) + 1 := IntWalk.i64_in _ (by omega)
  have HRC := hide (fun W => round_any x2 ((m : Int) + 1) W (by omega) (by omega))
  rw [hj] at HRC
  go_wp2_with fail
  refine (HRC.out _).mono ?_
  rintro e1 w2' ⟨rfl, rfl⟩
  have hwt : IntKind.i64.wrap (2 + 2 * r + 4 * q + T.s * 24 + T.o) = (t : Int) := by rw [HTT.out]; exact IntWalk.i64_in _ (by have := HTN.out; have := HRG.out.size; have := HN1.out; omega)
  have HWT := hide hwt
  have hseg : segAt 8 24 r q T.s = 2 + 2 * r + 4 * q + T.s * 24 := by unfold segAt; rw [if_pos (by omega)]
  have HSEG := hide hseg
  clear hwt hseg
  go_wp2
  obtain ⟨ev, hev⟩ : ∃ ev, IntKind.i64.wrap (segAt 8 24 r q E.s + E.o) = ev := ⟨_, rfl⟩
  have HALL2 := hide (show ∀ W, Kept [] wA W → (fun W => Kept [] wA W ∧ (W.cell? ⟨b13, 0, none⟩ = some (.int .i64 E.s) ∧ W.cell? ⟨b13, 1, none⟩ = some (.int .i64 E.o))) W from fun W k => ⟨k, (k.blk HM13g.out (by simp)).cell 0, (k.blk HM13g.out (by simp)).cell 1⟩)
  refine wp_region_noPanic ?_
  refine wp_region_held_drew (S := fun W => Kept [] wA W ∧ (W.cell? ⟨b13, 0, none⟩ = some (.int .i64 E.s) ∧ W.cell? ⟨b13, 1, none⟩ = some (.int .i64 E.o))) (by kernel_rfl) (by exact HALL2.out _ ((Kept.refl [] wA).drew)) (fun hHeld => ?_)
  refine tK 0 65 ?v28 rfl ?hy28 ?_
  case hy28 => intro W h; (try dsimp only at h); go_simp; try with_reducible rfl
  try simp only [Act.put, pA, pB, pC]
  refine tK 1 66 ?v29 rfl ?hy29 ?_
  case hy29 => intro W h; (try dsimp only at h); go_simp; try with_reducible rfl
  try simp only [Act.put, pA, pB, pC]
  refine tK 2 67 ?v30 rfl ?hy30 ?_
  case hy30 => intro W h; (try dsimp only at h); go_simp; try with_reducible rfl
  try simp only [Act.put, pA, pB, pC]
  refine tK 4 69 ?v31 rfl ?hy31 ?_
  case hy31 => intro W h; (try dsimp only at h); go_simp; try with_reducible rfl
  try simp only [Act.put, pA, pB, pC]
  refine tK 5 70 ?v32 rfl ?hy32 ?_
  case hy32 => intro W h; (try dsimp only at h); go_simp; try with_reducible rfl
  try simp only [Act.put, pA, pB, pC]
  refine held_one (i := 3) (o := ⟨some 68, _, _, _, _, _⟩) rfl (by kernel_rfl) (by rfl) (fun K hK => ?_)
  go_simp
  refine (seg_any g 3 8 24 r q E.s _ (HGg.out.kept hHeld.1)).mono ?_
  rintro e1 wB ⟨rfl, hkB⟩
  have HB := hide (hHeld.1.trans hkB (by simp))
  refine hK.out _ _ (by exact HALL2.out _ HB.out) (fun hHeld => ?_)
  clear hK K
  try simp only [Act.put, pA, pB, pC]
  refine tK 6 71 ?v33 rfl ?hy33 ?_
  case hy33 => intro W h; (try dsimp only at h); go_simp; try with_reducible rfl
  try simp only [Act.put, pA, pB, pC]
  refine tK 7 17 ?v34 rfl ?hy34 ?_
  case hy34 => intro W h; (try dsimp only at h); go_simp; try with_reducible rfl
  try simp only [Act.put, pA, pB, pC]
  refine wpAnyH_done (by kernel_rfl) ?_ _
  refine NoPanic.normal ?_
  go_upto_if 75 with fail
  go_cut [17] from 65 to 91 (fun p17 wx => p17 = .int .i64 (t : Int) ∧ Hid (Kept [] wA wx))
  case first =>
   by_cases hlt : j < m
   ·have hdl : decide ((j : Int) < (m : Int)) = true := decide_eq_true (by omega)
    obtain ⟨_, y, hy, rfl⟩ := HTW.out.resolve_right (by have := HM.out; omega)
    obtain ⟨f0, f1, _⟩ := HFN.out.at_ hy
    obtain ⟨ad, rfl, _, g0⟩ := HVS.out _ _ f0
    obtain ⟨_, e1, _, g1⟩ := HVS.out _ _ f1
    cases e1
    rw [item.add_field _ _ _ (by omega), show 10 * j = j * 10 by omega] at g1
    rw [show 10 * j = j * 10 by omega] at g0
    have HALL3 := hide (show ∀ W, Kept [] wA W → (fun W => Kept [] wA W ∧ (W.cell? (ad.add (j * 10)) = some (.int .i64 y.1.s) ∧ W.cell? ⟨(ad.add (j * 10)).block, (ad.add (j * 10)).off + 1, none⟩ = some (.int .i64 y.1.o))) W from fun W k => ⟨k, k.cell g0 (by simp), k.cell g1 (by simp)⟩)
    go_wp2
    refine wp_region_noPanic ?_
    refine wp_region_held_drew (S := fun W => Kept [] wA W ∧ (W.cell? (ad.add (j * 10)) = some (.int .i64 y.1.s) ∧ W.cell? ⟨(ad.add (j * 10)).block, (ad.add (j * 10)).off + 1, none⟩ = some (.int .i64 y.1.o))) (by kernel_rfl) (by exact HALL3.out _ HB.out.drew) (fun hHeld => ?_)
    refine tK 0 76 ?v35 rfl ?hy35 ?_
    case hy35 => intro W h; (try dsimp only at h); go_simp; try with_reducible rfl
    try simp only [Act.put, pA, pB, pC]
    refine tK 1 77 ?v36 rfl ?hy36 ?_
    case hy36 => intro W h; (try dsimp only at h); go_simp; try with_reducible rfl
    try simp only [Act.put, pA, pB, pC]
    refine tK 2 78 ?v37 rfl ?hy37 ?_
    case hy37 => intro W h; (try dsimp only at h); go_simp; try with_reducible rfl
    try simp only [Act.put, pA, pB, pC]
    refine tK 3 79 ?v38 rfl ?hy38 ?_
    case hy38 => intro W h; (try dsimp only at h); go_simp; try with_reducible rfl
    try simp only [Act.put, pA, pB, pC]
    refine tK 4 80 ?v39 rfl ?hy39 ?_
    case hy39 => intro W h; (try dsimp only at h); go_simp; try with_reducible rfl
    try simp only [Act.put, pA, pB, pC]
    refine tK 5 81 ?v40 rfl ?hy40 ?_
    case hy40 => intro W h; (try dsimp only at h); go_simp; try with_reducible rfl
    try simp only [Act.put, pA, pB, pC]
    refine tK 6 82 ?v41 rfl ?hy41 ?_
    case hy41 => intro W h; (try dsimp only at h); go_simp; try with_reducible rfl
    try simp only [Act.put, pA, pB, pC]
    refine tK 8 84 ?v42 rfl ?hy42 ?_
    case hy42 => intro W h; (try dsimp only at h); go_simp; try with_reducible rfl
    try simp only [Act.put, pA, pB, pC]
    refine tK 9 85 ?v43 rfl ?hy43 ?_
    case hy43 => intro W h; (try dsimp only at h); go_simp; try with_reducible rfl
    try simp only [Act.put, pA, pB, pC]
    refine tK 10 86 ?v44 rfl ?hy44 ?_
    case hy44 => intro W h; (try dsimp only at h); go_simp; try with_reducible rfl
    try simp only [Act.put, pA, pB, pC]
    refine tK 11 87 ?v45 rfl ?hy45 ?_
    case hy45 => intro W h; (try dsimp only at h); go_simp; try with_reducible rfl
    try simp only [Act.put, pA, pB, pC]
    refine tK 12 88 ?v46 rfl ?hy46 ?_
    case hy46 => intro W h; (try dsimp only at h); go_simp; try with_reducible rfl
    try simp only [Act.put, pA, pB, pC]
    refine tK 13 89 ?v47 rfl ?hy47 ?_
    case hy47 => intro W h; (try dsimp only at h); go_simp; try with_reducible rfl
    try simp only [Act.put, pA, pB, pC]
    refine held_one (i := 7) (o := ⟨some 83, _, _, _, _, _⟩) rfl (by kernel_rfl) (by rfl) (fun K hK => ?_)
    go_simp
    refine (seg_any g 3 8 24 r q y.1.s _ (HGg.out.kept hHeld.1)).mono ?_
    rintro e1 wC ⟨rfl, hkC⟩
    have HC2 := hide (hHeld.1.trans hkC (by simp))
    rw [HSEG.out]
    refine hK.out _ _ (by exact HALL3.out _ HC2.out) (fun hHeld => ?_)
    clear hK K
    try simp only [Act.put, pA, pB, pC]
    refine tK 14 90 ?v48 rfl ?hy48 ?_
    case hy48 => intro W h; (try dsimp only at h); go_simp; try with_reducible rfl
    try simp only [Act.put, pA, pB, pC]
    refine tK 15 17 ?v49 rfl ?hy49 ?_
    case hy49 => intro W h; (try dsimp only at h); go_simp; try with_reducible rfl
    try simp only [Act.put, pA, pB, pC]
    refine wpAnyH_done (by kernel_rfl) ?_ _
    refine NoPanic.normal ?_
    go_wp2_with fail
    go_meet
    refine ⟨?_, HC2⟩
    rw [HWT.out]
   ·have hdl : decide ((j : Int) < (m : Int)) = false := decide_eq_false (by omega)
    have HTE := hide (HTW.out.resolve_left (by have := HM.out; omega)).2
    go_wp2_with fail
    go_meet
    refine ⟨?_, HB⟩
    have h1 := HWT.out
    have h2 := HSEG.out
    rw [HTE.out] at h1 h2
    rw [← hev, h2, h1]
  case rest =>
   obtain ⟨rfl, HKT⟩ := hcut
   have HDt := hide (HDg.out.kept0 HKT.out)
   have HFE := hide (flt_yes HTN.out)
   go_wp2_with fail
   refine (fault_at d F1 D1 t true _ HDt.out.a).mono ?_
   rw [HFE.out]
   rintro e1 wF ⟨rfl, hdF, hkF⟩
   dsimp only at hdF
   have HDF := hide hdF
   have HKF := hide hkF
   have HCF := hide ((HCCg.out.kept HKT.out (by simp)).kept hkF (fun hm => HC.out.2.2 (by simp [hm])))
   have HGF2 := hide ((HGg.out.kept HKT.out (by simp)).kept hkF (fun hm => HF1.out g (by simp [hm]) |>.2.1 rfl))
   clear hdF hkF
   go_wp2_with fail
   refine (cwalk_any F1 (flt D1 t) (flt_ok HRG.out.reads.ok t) c d g _ _ _ 3 8 r q 24 (L.take j) E2 4 99 _ HLOG.out (by rw [List.length_take]; omega) (by rw [List.length_take]; omega) HCF.out HGF2.out HDF.out HC.out.2.1 (fun hm => HC.out.2.2 (by simp [hm]))).mono ?_
   rw [show (L.take j).length = j by rw [List.length_take]; have := HM.out; omega]
   rintro e1 wG ⟨A2, cp2, xs2, rfl, _, _, _, hcc2, hkG⟩
   have HCG := hide hcc2
   have HKG := hide hkG
   have HDG := hide (HDF.out.kept hkG (fun x hx hm => by simp at hm; subst hm; exact HC.out.2.2 (by simp [hx])))
   have HGG := hide (HGF2.out.kept hkG (by have := HC.out.2.1; simp; omega))
   clear hcc2 hkG
   go_wp2_with fail
   refine (cerr_any c d g _ _ _ _ HCG.out).mono ?_
   rintro e1 wG' ⟨rfl, rfl⟩
   have hne1 : ((j : Int) != (j : Int)) = false := by simp
   have HFN2 := hide (flt_no HRG.out.reads HTN.out)
   go_wp2_with fail
   refine (fault_at d F1 (flt D1 t) t false _ HDG.out).mono ?_
   rw [HFN2.out]
   rintro e1 wH ⟨rfl, hdH, hkH⟩
   dsimp only at hdH
   have HDH := hide hdH
   have HKH := hide hkH
   have HCH := hide (HCG.out.kept hkH (fun hm => HC.out.2.2 (by simp [hm])))
   have HGH := hide (HGG.out.kept hkH (fun hm => HF1.out g (by simp [hm]) |>.2.1 rfl))
   clear hdH hkH
   go_wp2_with fail
   refine (cwalk_any F1 D1 HRG.out.reads.ok c d g _ _ _ 3 8 r q 24 L E 0 99 _ HRG.out.logs (by have := HM.out; omega) (by have := HM.out; omega) HCH.out HGH.out HDH.out HC.out.2.1 (fun hm => HC.out.2.2 (by simp [hm]))).mono ?_
   rw [HM.out]
   rintro e1 wI ⟨A3, cp3, xs3, rfl, _, _, _, hcc3, hkI⟩
   have HCI := hide hcc3
   have HKI := hide hkI
   clear hcc3 hkI
   have hmm : ((m : Int) == (m : Int)) = true := by simp
   go_wp2_with fail
   refine (cerr_any c d g _ _ _ _ HCI.out).mono ?_
   rintro e1 wI' ⟨rfl, rfl⟩
   go_wp2_with fail
   refine (cawake_any _).mono ?_
   rintro e1 wZ ⟨rfl, hkZ⟩
   have hc0 : w.heap.size ≤ c := by have h1 := HC.out.1; have h2 := HGB.out; have h3 := HFB.out; omega
   have hf0 : ∀ i ∈ F1, w.heap.size ≤ i := fun i hi => (HF1.out i (by simp [hi])).2.2.2
   have HZ := hide ((((((HKg.out.trans HKT.out (by simp)).trans HKF.out (fun i hi => .inr (hf0 i hi))).trans HKG.out (fun i hi => by simp at hi; subst hi; exact .inr hc0)).trans HKH.out (fun i hi => .inr (hf0 i hi))).trans HKI.out (fun i hi => by simp at hi; subst hi; exact .inr hc0)).trans hkZ (by simp))
   go_wp2
   go_ret
   exact ⟨rfl, HZ.out⟩
end Go.Proofs.YtgifeilmidpkeaaGreat.sc
