import Derived.Test.YtolbalafhfpjbaaGreatPWriterSmall
set_option maxRecDepth 100000
namespace Go.Proofs.YtolbalafhfpjbaaGreat.wr
set_option linter.unusedSimpArgs false
set_option linter.unusedVariables false
open Go.RowKit mem base disk owns geom
open sc (Ps Seal sealed)
open us (Rw inState TAt)
open item (It)
open record (cell5)
def placeOk (s l : Int) (p : Ps) : Prop := (0 ≤ p.s ∧ p.s ≤ s - 1) ∧ (0 ≤ p.o ∧ p.o ≤ l - 1) ∧ (1 ≤ p.l ∧ p.l ≤ 2147483647) ∧ (0 ≤ p.v ∧ p.v ≤ 4294967295) ∧ (1 ≤ p.m ∧ p.m ≤ 2147483647)
instance (s l : Int) (p : Ps) : Decidable (placeOk s l p) := by unfold placeOk; infer_instance
theorem mayAt_any (b s l : Int) (p : Ps) (w : World) (hs : 1 ≤ s ∧ s ≤ 1000) (hl : 1 ≤ l ∧ l ≤ 1000) :
  Calls Tryz.prog 159 #[.agg #[.int .i64 b, .int .i64 s, .int .i64 l], p.val] w fun e' w' => e' = .returned (.bool (decide (placeOk s l p))) ∧ Kept [] w w' := by
 obtain ⟨z, hz⟩ : ∃ z, w.heap.size = z := ⟨_, rfl⟩
 obtain ⟨w0, hw0⟩ : ∃ w0, (w.alloc (.cells #[.int .i64 b, .int .i64 s, .int .i64 l] 29)).alloc (.cells #[.int .i64 p.s, .int .i64 p.o, .int .i64 p.l, .int .i64 p.v, .int .i64 p.m] 24) = w0 := ⟨_, rfl⟩
 have hk0 : Kept [] w w0 := by rw [← hw0]; exact ((Kept.refl [] w).alloc _).alloc _
 have hb0 : Blk w0 z 29 #[.int .i64 b, .int .i64 s, .int .i64 l] := by rw [← hw0, ← hz]; exact (Blk.new w _ _).alloc _
 have hb1 : Blk w0 (z + 1) 24 #[.int .i64 p.s, .int .i64 p.o, .int .i64 p.l, .int .i64 p.v, .int .i64 p.m] := by
  rw [← hw0, ← hz]
  have := Blk.new (w.alloc (.cells #[.int .i64 b, .int .i64 s, .int .i64 l] 29)) 24 #[.int .i64 p.s, .int .i64 p.o, .int .i64 p.l, .int .i64 p.v, .int .i64 p.m]
  rw [World.size_alloc] at this
  exact this
 obtain ⟨p0, p1, p2, p3, p4⟩ := cell5 hb1
 obtain ⟨c0, c1, c2⟩ : w0.cell? ⟨z, 0, none⟩ = some (.int .i64 b) ∧ w0.cell? ⟨z, 1, none⟩ = some (.int .i64 s) ∧ w0.cell? ⟨z, 2, none⟩ = some (.int .i64 l) := ⟨hb0.cell 0, hb0.cell 1, hb0.cell 2⟩
 have HKE := hide hk0
 have u1 : IntKind.i64.wrap (s - 1) = s - 1 := IntWalk.i64_in _ (by omega)
 have u2 : IntKind.i64.wrap (l - 1) = l - 1 := IntWalk.i64_in _ (by omega)
 clear hk0 hb0 hb1
 unfold Ps.val
 by_cases h0 : (0 ≤ p.s ∧ p.s ≤ s - 1)
 ·by_cases h1 : (0 ≤ p.o ∧ p.o ≤ l - 1)
  ·by_cases h2 : (1 ≤ p.l ∧ p.l ≤ 2147483647)
   ·by_cases h3 : (0 ≤ p.v ∧ p.v ≤ 4294967295)
    ·by_cases h4 : (1 ≤ p.m ∧ p.m ≤ 2147483647)
     ·go_enter Tryz.func159, Tryz.ntmps159
      go_wp2_with fail
      refine (within_any (p.s) (0) (s - 1) _).mono ?_
      rintro e1 w1 ⟨rfl, rfl⟩
      rw [decide_eq_true h0]
      go_wp2_with fail
      refine (within_any (p.o) (0) (l - 1) _).mono ?_
      rintro e1 w1 ⟨rfl, rfl⟩
      rw [decide_eq_true h1]
      go_wp2_with fail
      refine (within_any (p.l) (1) (2147483647) _).mono ?_
      rintro e1 w1 ⟨rfl, rfl⟩
      rw [decide_eq_true h2]
      go_wp2_with fail
      refine (within_any (p.v) (0) (4294967295) _).mono ?_
      rintro e1 w1 ⟨rfl, rfl⟩
      rw [decide_eq_true h3]
      go_wp2_with fail
      refine (within_any (p.m) (1) (2147483647) _).mono ?_
      rintro e1 w1 ⟨rfl, rfl⟩
      rw [decide_eq_true h4]
      go_wp2
      go_ret
      exact ⟨by rw [decide_eq_true (by unfold placeOk; exact ⟨h0, h1, h2, h3, h4⟩)]; rfl, HKE.out⟩
     ·go_enter Tryz.func159, Tryz.ntmps159
      go_wp2_with fail
      refine (within_any (p.s) (0) (s - 1) _).mono ?_
      rintro e1 w1 ⟨rfl, rfl⟩
      rw [decide_eq_true h0]
      go_wp2_with fail
      refine (within_any (p.o) (0) (l - 1) _).mono ?_
      rintro e1 w1 ⟨rfl, rfl⟩
      rw [decide_eq_true h1]
      go_wp2_with fail
      refine (within_any (p.l) (1) (2147483647) _).mono ?_
      rintro e1 w1 ⟨rfl, rfl⟩
      rw [decide_eq_true h2]
      go_wp2_with fail
      refine (within_any (p.v) (0) (4294967295) _).mono ?_
      rintro e1 w1 ⟨rfl, rfl⟩
      rw [decide_eq_true h3]
      go_wp2_with fail
      refine (within_any (p.m) (1) (2147483647) _).mono ?_
      rintro e1 w1 ⟨rfl, rfl⟩
      rw [decide_eq_false h4]
      go_wp2
      go_ret
      exact ⟨by rw [decide_eq_false (by unfold placeOk; exact fun hc => h4 hc.2.2.2.2)]; rfl, HKE.out⟩
    ·go_enter Tryz.func159, Tryz.ntmps159
     go_wp2_with fail
     refine (within_any (p.s) (0) (s - 1) _).mono ?_
     rintro e1 w1 ⟨rfl, rfl⟩
     rw [decide_eq_true h0]
     go_wp2_with fail
     refine (within_any (p.o) (0) (l - 1) _).mono ?_
     rintro e1 w1 ⟨rfl, rfl⟩
     rw [decide_eq_true h1]
     go_wp2_with fail
     refine (within_any (p.l) (1) (2147483647) _).mono ?_
     rintro e1 w1 ⟨rfl, rfl⟩
     rw [decide_eq_true h2]
     go_wp2_with fail
     refine (within_any (p.v) (0) (4294967295) _).mono ?_
     rintro e1 w1 ⟨rfl, rfl⟩
     rw [decide_eq_false h3]
     go_wp2
     go_ret
     exact ⟨by rw [decide_eq_false (by unfold placeOk; exact fun hc => h3 hc.2.2.2.1)]; rfl, HKE.out⟩
   ·go_enter Tryz.func159, Tryz.ntmps159
    go_wp2_with fail
    refine (within_any (p.s) (0) (s - 1) _).mono ?_
    rintro e1 w1 ⟨rfl, rfl⟩
    rw [decide_eq_true h0]
    go_wp2_with fail
    refine (within_any (p.o) (0) (l - 1) _).mono ?_
    rintro e1 w1 ⟨rfl, rfl⟩
    rw [decide_eq_true h1]
    go_wp2_with fail
    refine (within_any (p.l) (1) (2147483647) _).mono ?_
    rintro e1 w1 ⟨rfl, rfl⟩
    rw [decide_eq_false h2]
    go_wp2
    go_ret
    exact ⟨by rw [decide_eq_false (by unfold placeOk; exact fun hc => h2 hc.2.2.1)]; rfl, HKE.out⟩
  ·go_enter Tryz.func159, Tryz.ntmps159
   go_wp2_with fail
   refine (within_any (p.s) (0) (s - 1) _).mono ?_
   rintro e1 w1 ⟨rfl, rfl⟩
   rw [decide_eq_true h0]
   go_wp2_with fail
   refine (within_any (p.o) (0) (l - 1) _).mono ?_
   rintro e1 w1 ⟨rfl, rfl⟩
   rw [decide_eq_false h1]
   go_wp2
   go_ret
   exact ⟨by rw [decide_eq_false (by unfold placeOk; exact fun hc => h1 hc.2.1)]; rfl, HKE.out⟩
 ·go_enter Tryz.func159, Tryz.ntmps159
  go_wp2_with fail
  refine (within_any (p.s) (0) (s - 1) _).mono ?_
  rintro e1 w1 ⟨rfl, rfl⟩
  rw [decide_eq_false h0]
  go_wp2
  go_ret
  exact ⟨by rw [decide_eq_false (by unfold placeOk; exact fun hc => h0 hc.1)]; rfl, HKE.out⟩
def addOk (i : It) (n : Nat) : Prop := i.may = true ∧ i.k ≠ 7 ∧ n = if i.loaded = true then 64 else 0
instance (i : It) (n : Nat) : Decidable (addOk i n) := by unfold addOk; infer_instance
theorem mayAdd_any (i : It) (A : Option Addr) (n c : Nat) (w : World) :
  Calls Tryz.prog 103 #[i.val, .slice A n c] w fun e' w' => e' = .returned (.bool (decide (addOk i n))) ∧ Kept [] w w' := by
 obtain ⟨z, hz⟩ : ∃ z, w.heap.size = z := ⟨_, rfl⟩
 obtain ⟨w0, hw0⟩ : ∃ w0, w.alloc (.cells #[.int .i64 i.k, .int .i64 i.b, .int .i64 i.c, .int .i64 i.v] 84) = w0 := ⟨_, rfl⟩
 have hk0 : Kept [] w w0 := by rw [← hw0]; exact (Kept.refl [] w).alloc _
 have hb0 : Blk w0 z 84 #[.int .i64 i.k, .int .i64 i.b, .int .i64 i.c, .int .i64 i.v] := by rw [← hw0, ← hz]; exact Blk.new w _ _
 have HB := hide hb0
 have HK := hide hk0
 obtain ⟨i0, i1, i2, i3⟩ : w0.cell? ⟨z, 0, none⟩ = some (.int .i64 i.k) ∧ w0.cell? ⟨z, 1, none⟩ = some (.int .i64 i.b) ∧ w0.cell? ⟨z, 2, none⟩ = some (.int .i64 i.c) ∧ w0.cell? ⟨z, 3, none⟩ = some (.int .i64 i.v) := ⟨hb0.cell 0, hb0.cell 1, hb0.cell 2, hb0.cell 3⟩
 clear hk0 hb0
 have HL := hide (fun W => item.loaded_any i W)
 have HY := hide (fun W => item.may_any i W)
 unfold It.val at HL HY ⊢
 obtain ⟨ld, hld⟩ : ∃ ld, i.loaded = ld := ⟨_, rfl⟩
 obtain ⟨my, hmy⟩ : ∃ my, i.may = my := ⟨_, rfl⟩
 rw [hld] at HL
 rw [hmy] at HY
 have HE := hide (show decide (addOk i n) = (my && (!decide (i.k = 7) && decide (n = if ld = true then 64 else 0))) from by
  rw [Bool.eq_iff_iff]
  simp [addOk, hld, hmy])
 rw [HE.out]
 clear hld hmy
 go_enter Tryz.func103, Tryz.ntmps103
 go_wp2_with fail
 refine (HL.out _).mono ?_
 rintro e1 w1 ⟨rfl, hk1⟩
 have HB1 := hide (hk1.blk HB.out (by simp))
 have HK1 := hide (HK.out.trans hk1 (by simp))
 clear hk1 HB HK i0 i1 i2 i3
 obtain ⟨i0, i1, i2, i3⟩ : w1.cell? ⟨z, 0, none⟩ = some (.int .i64 i.k) ∧ w1.cell? ⟨z, 1, none⟩ = some (.int .i64 i.b) ∧ w1.cell? ⟨z, 2, none⟩ = some (.int .i64 i.c) ∧ w1.cell? ⟨z, 3, none⟩ = some (.int .i64 i.v) := ⟨HB1.out.cell 0, HB1.out.cell 1, HB1.out.cell 2, HB1.out.cell 3⟩
 obtain ⟨k7, hk7⟩ : ∃ k7, decide (i.k = 7) = k7 := ⟨_, rfl⟩
 have HK7 := hide hk7
 have hne : (i.k != 7) = !k7 := by rw [← hk7]; by_cases h : i.k = 7 <;> simp [h]
 cases ld
 ·obtain ⟨ln, hln⟩ : ∃ ln, decide (n = 0) = ln := ⟨_, rfl⟩
  have hq : ((n : Int) == 0) = ln := by rw [← hln]; by_cases h : n = 0 <;> simp [h] <;> omega
  have HLE := hide hln
  clear hln
  go_wp2_with fail
  refine (HY.out _).mono ?_
  rintro e1 w2 ⟨rfl, hk2⟩
  have HK2 := hide (HK1.out.trans hk2 (by simp))
  have HB2 := hide (hk2.blk HB1.out (by simp))
  have j0 : w2.cell? ⟨z, 0, none⟩ = some (.int .i64 i.k) := HB2.out.cell 0
  clear hk2
  cases my
  ·go_wp2
   go_ret
   exact ⟨rfl, HK2.out⟩
  ·clear hk7
   cases k7
   ·go_wp2
    go_ret
    exact ⟨by rw [HK7.out, HLE.out]; rfl, HK2.out⟩
   ·go_wp2
    go_ret
    exact ⟨by rw [HK7.out, HLE.out]; rfl, HK2.out⟩
 ·obtain ⟨ln, hln⟩ : ∃ ln, decide (n = 64) = ln := ⟨_, rfl⟩
  have hq : ((n : Int) == 64) = ln := by rw [← hln]; by_cases h : n = 64 <;> simp [h] <;> omega
  have HLE := hide hln
  clear hln
  go_wp2_with fail
  refine (HY.out _).mono ?_
  rintro e1 w2 ⟨rfl, hk2⟩
  have HK2 := hide (HK1.out.trans hk2 (by simp))
  have HB2 := hide (hk2.blk HB1.out (by simp))
  have j0 : w2.cell? ⟨z, 0, none⟩ = some (.int .i64 i.k) := HB2.out.cell 0
  clear hk2
  cases my
  ·go_wp2
   go_ret
   exact ⟨rfl, HK2.out⟩
  ·clear hk7
   cases k7
   ·go_wp2
    go_ret
    exact ⟨by rw [HK7.out, HLE.out]; rfl, HK2.out⟩
   ·go_wp2
    go_ret
    exact ⟨by rw [HK7.out, HLE.out]; rfl, HK2.out⟩
theorem wnew_any (d g tp : Nat) (b s l r q : Int) (p : Ps) (w : World) (hg : GAt w g b s l r q) :
  Calls Tryz.prog 92 #[.pointer (some ⟨d, 0, none⟩), .pointer (some ⟨g, 0, none⟩), .pointer (some ⟨tp, 0, none⟩), p.val] w fun e w' =>
   (placeOk s l p ∧ ∃ v, e = .returned (.pointer (some ⟨v, 0, none⟩)) ∧ w.heap.size ≤ v ∧ WAt w' v d g tp p none 0 0 none 0 0 ∧ Kept [] w w') ∨ (¬ placeOk s l p ∧ e = .returned (.pointer none) ∧ Kept [] w w') := by
 obtain ⟨z, hz⟩ : ∃ z, w.heap.size = z := ⟨_, rfl⟩
 obtain ⟨w0, hw0⟩ : ∃ w0, w.alloc (.cells #[.int .i64 p.s, .int .i64 p.o, .int .i64 p.l, .int .i64 p.v, .int .i64 p.m] 24) = w0 := ⟨_, rfl⟩
 have hk0 : Kept [] w w0 := by rw [← hw0]; exact (Kept.refl [] w).alloc _
 have hb0 : Blk w0 z 24 #[.int .i64 p.s, .int .i64 p.o, .int .i64 p.l, .int .i64 p.v, .int .i64 p.m] := by rw [← hw0, ← hz]; exact Blk.new w _ _
 have HK := hide hk0
 have HG := hide (hg.kept hk0)
 have HB := hide hb0
 have hok := hg.ok
 unfold Ok at hok
 have HM := hide (fun W => mayAt_any b s l p W (by omega) (by omega))
 obtain ⟨y, hy⟩ : ∃ y, decide (placeOk s l p) = y := ⟨_, rfl⟩
 have HYE := hide hy
 rw [hy] at HM
 clear hk0 hg hb0 hok hy
 unfold Ps.val at HM ⊢
 have HALL := hide (show ∀ W, Kept [] w0 W → (fun W => Kept [] w0 W ∧ (W.cell? ⟨z, 0, none⟩ = some (.int .i64 p.s) ∧ W.cell? ⟨z, 1, none⟩ = some (.int .i64 p.o) ∧ W.cell? ⟨z, 2, none⟩ = some (.int .i64 p.l) ∧ W.cell? ⟨z, 3, none⟩ = some (.int .i64 p.v) ∧ W.cell? ⟨z, 4, none⟩ = some (.int .i64 p.m))) W from fun W k => ⟨k, cell5 (k.blk HB.out (by simp))⟩)
 go_enter Tryz.func92, Tryz.ntmps92
 go_wp2
 refine wp_region_noPanic ?_
 refine wp_region_held_drew (S := fun W => Kept [] w0 W ∧ (W.cell? ⟨z, 0, none⟩ = some (.int .i64 p.s) ∧ W.cell? ⟨z, 1, none⟩ = some (.int .i64 p.o) ∧ W.cell? ⟨z, 2, none⟩ = some (.int .i64 p.l) ∧ W.cell? ⟨z, 3, none⟩ = some (.int .i64 p.v) ∧ W.cell? ⟨z, 4, none⟩ = some (.int .i64 p.m))) (by kernel_rfl) (by exact HALL.out _ ((Kept.refl [] w0).drew)) (fun hHeld => ?_)
 refine tK 0 9 rfl ?_
 try simp only [Act.put, pA, pB, pC]
 refine tK 1 10 rfl ?_
 try simp only [Act.put, pA, pB, pC]
 refine tK 2 11 rfl ?_
 try simp only [Act.put, pA, pB, pC]
 refine tK 3 12 rfl ?_
 try simp only [Act.put, pA, pB, pC]
 refine tK 4 13 rfl ?_
 try simp only [Act.put, pA, pB, pC]
 refine tK 5 14 rfl ?_
 try simp only [Act.put, pA, pB, pC]
 refine tK 6 15 rfl ?_
 try simp only [Act.put, pA, pB, pC]
 refine tK 7 16 rfl ?_
 try simp only [Act.put, pA, pB, pC]
 refine tK 8 17 rfl ?_
 try simp only [Act.put, pA, pB, pC]
 refine tK 9 18 rfl ?_
 try simp only [Act.put, pA, pB, pC]
 refine tK 10 19 rfl ?_
 try simp only [Act.put, pA, pB, pC]
 refine tK 11 20 rfl ?_
 try simp only [Act.put, pA, pB, pC]
 refine tK 13 22 rfl ?_
 try simp only [Act.put, pA, pB, pC]
 refine hO 12 (some 21) rfl fun K hK => ?_
 go_simp
 refine (config_at g b s l r q _ (HG.out.kept hHeld.1)).mono ?_
 rintro e1 w1 ⟨rfl, hk1⟩
 have H1 := hide (hHeld.1.trans hk1 (by simp))
 refine hK.out _ _ (by exact HALL.out _ H1.out) (fun hHeld => ?_)
 clear hK K
 try simp only [Act.put, pA, pB, pC]
 refine hO 14 (some 23) rfl fun K hK => ?_
 go_simp
 refine (HM.out _).mono ?_
 rintro e1 w2 ⟨rfl, hk2⟩
 have H2 := hide (hHeld.1.trans hk2 (by simp))
 refine hK.out _ _ (by exact HALL.out _ H2.out) (fun hHeld => ?_)
 clear hK K
 try simp only [Act.put, pA, pB, pC]
 refine tK 15 24 rfl ?_
 try simp only [Act.put, pA, pB, pC]
 refine tK 16 25 rfl ?_
 try simp only [Act.put, pA, pB, pC]
 refine wpAnyH_done (by kernel_rfl) ?_ _
 refine NoPanic.normal ?_
 cases y
 ·go_wp2
  go_ret
  exact .inr ⟨of_decide_eq_false HYE.out, rfl, HK.out.trans H2.out (by simp)⟩
 ·obtain ⟨q0, q1, q2, q3, q4⟩ := cell5 (H2.out.blk HB.out (by simp))
  have HSZ := hide (Nat.le_trans HK.out.size H2.out.size)
  go_wp2
  go_ret
  exact .inl ⟨of_decide_eq_true HYE.out, w2.heap.size, rfl, HSZ.out, Blk.new w2 _ _, (HK.out.trans H2.out (by simp)).alloc _⟩
theorem wnew_nil (P Q : Option Addr) (p : Ps) (w : World) :
  Calls Tryz.prog 92 #[.pointer none, .pointer P, .pointer Q, p.val] w fun e w' => e = .returned (.pointer none) ∧ Kept [] w w' := by
 have HK := hide ((Kept.refl [] w).alloc (.cells #[.int .i64 p.s, .int .i64 p.o, .int .i64 p.l, .int .i64 p.v, .int .i64 p.m] 24))
 unfold Ps.val
 go_enter Tryz.func92, Tryz.ntmps92
 go_wp2
 refine wp_region_noPanic ?_
 refine wp_region_held_drew (S := fun W => Kept [] (w.alloc (.cells #[.int .i64 p.s, .int .i64 p.o, .int .i64 p.l, .int .i64 p.v, .int .i64 p.m] 24)) W) (by kernel_rfl) (by exact (Kept.refl [] _).drew) (fun hHeld => ?_)
 refine tK 0 9 rfl ?_
 try simp only [Act.put, pA, pB, pC]
 refine tK 1 10 rfl ?_
 try simp only [Act.put, pA, pB, pC]
 refine tK 2 11 rfl ?_
 try simp only [Act.put, pA, pB, pC]
 refine tU 3 12 rfl ?_
 try simp only [Act.put, pA, pB, pC]
 refine tU 4 13 rfl ?_
 try simp only [Act.put, pA, pB, pC]
 refine tK 5 14 rfl ?_
 try simp only [Act.put, pA, pB, pC]
 refine tK 6 15 rfl ?_
 try simp only [Act.put, pA, pB, pC]
 refine tU 7 16 rfl ?_
 try simp only [Act.put, pA, pB, pC]
 refine tU 8 17 rfl ?_
 try simp only [Act.put, pA, pB, pC]
 refine tK 9 18 rfl ?_
 try simp only [Act.put, pA, pB, pC]
 refine tK 10 19 rfl ?_
 try simp only [Act.put, pA, pB, pC]
 refine tU 11 20 rfl ?_
 try simp only [Act.put, pA, pB, pC]
 refine tU 12 21 rfl ?_
 try simp only [Act.put, pA, pB, pC]
 refine tU 13 22 rfl ?_
 try simp only [Act.put, pA, pB, pC]
 refine tU 14 23 rfl ?_
 try simp only [Act.put, pA, pB, pC]
 refine tU 15 24 rfl ?_
 try simp only [Act.put, pA, pB, pC]
 refine tK 16 25 rfl ?_
 try simp only [Act.put, pA, pB, pC]
 refine wpAnyH_done (by kernel_rfl) ?_ _
 refine NoPanic.normal ?_
 go_wp2
 go_ret
 exact ⟨rfl, HK.out.drew⟩
end Go.Proofs.YtolbalafhfpjbaaGreat.wr
