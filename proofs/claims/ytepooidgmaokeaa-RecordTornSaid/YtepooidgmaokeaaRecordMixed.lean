/- The laws' mixed: the items of one, and blocks of both, of which the sums are one (its regions made by tools/genmixed.py). -/
import Derived.Test.YtepooidgmaokeaaRecordAlike
import Derived.Test.YtepooidgmaokeaaRecordEncode
namespace Go.Proofs.Ytepooidgmaokeaa.record
open Go.RowKit Go.Proofs.Ytepooidgmaokeaa.mem Go.Proofs.Ytepooidgmaokeaa.base Go.Proofs.Ytepooidgmaokeaa.row Go.Proofs.Ytepooidgmaokeaa.rowBack Go.Proofs.Ytepooidgmaokeaa.fill Go.Proofs.Ytepooidgmaokeaa.crc Go.Proofs.Ytepooidgmaokeaa.crcMath Go.Proofs.Ytepooidgmaokeaa.super Go.Proofs.Ytepooidgmaokeaa.item

theorem mxheld {w0 W W' : World} {p1 p2 p3 p4 p5 p6 : Addr} {v1 v2 v3 v4 v5 v6 : Value} (h : Kept [] w0 W ∧ W.cell? p1 = some v1 ∧ W.cell? p2 = some v2 ∧ W.cell? p3 = some v3 ∧ W.cell? p4 = some v4 ∧ W.cell? p5 = some v5 ∧ W.cell? p6 = some v6) (hk : Kept [] W W') :
    Kept [] w0 W' ∧ W'.cell? p1 = some v1 ∧ W'.cell? p2 = some v2 ∧ W'.cell? p3 = some v3 ∧ W'.cell? p4 = some v4 ∧ W'.cell? p5 = some v5 ∧ W'.cell? p6 = some v6 :=
  ⟨h.1.trans hk (by simp), hk.cell h.2.1 (by simp), hk.cell h.2.2.1 (by simp), hk.cell h.2.2.2.1 (by simp), hk.cell h.2.2.2.2.1 (by simp), hk.cell h.2.2.2.2.2.1 (by simp), hk.cell h.2.2.2.2.2.2 (by simp)⟩

set_option maxRecDepth 100000 in
set_option maxHeartbeats 4000000 in
theorem mixed_any (Y R Q : Rc) (L1 A1 L2 A2 L3 A3 : Option Addr) (n1 c1 d1 n2 c2 d2 n3 c3 d3 k : Nat) (w : World) (h1 : RcAt w L1 n1 A1 k Y) (h2 : RcAt w L2 n2 A2 k R) (h3 : RcAt w L3 n3 A3 k Q) (o1 : Y.ok) (o2 : R.ok) (o3 : Q.ok)
    (hb : ∀ (i : Nat) (b : List UInt8), Y.bks[i]? = some b → R.bks[i]? = some b ∨ Q.bks[i]? = some b) (hs : Y.sum = R.sum ∨ Y.sum = Q.sum) :
    Calls Try.prog 23 #[.agg #[.int .i64 Y.m, .int .i64 Y.l, .int .i64 Y.p, .slice L1 n1 c1, .slice A1 k d1], .agg #[.int .i64 R.m, .int .i64 R.l, .int .i64 R.p, .slice L2 n2 c2, .slice A2 k d2], .agg #[.int .i64 Q.m, .int .i64 Q.l, .int .i64 Q.p, .slice L3 n3 c3, .slice A3 k d3]] w fun e w' =>
      e = .returned (.bool true) ∧ Kept [] w w' := by
  have ka := (Kept.refl [] w).alloc (.cells #[.int .i64 Y.m, .int .i64 Y.l, .int .i64 Y.p, .slice L1 n1 c1, .slice A1 k d1] 25)
  have ba := Blk.new w 25 #[.int .i64 Y.m, .int .i64 Y.l, .int .i64 Y.p, .slice L1 n1 c1, .slice A1 k d1]
  obtain ⟨w1, hw1⟩ : ∃ w1, w.alloc (.cells #[.int .i64 Y.m, .int .i64 Y.l, .int .i64 Y.p, .slice L1 n1 c1, .slice A1 k d1] 25) = w1 := ⟨_, rfl⟩
  obtain ⟨g, hg⟩ : ∃ g, w.heap.size = g := ⟨_, rfl⟩
  rw [hw1] at ka ba
  rw [hg] at ba
  have kb := ka.alloc (.cells #[.int .i64 R.m, .int .i64 R.l, .int .i64 R.p, .slice L2 n2 c2, .slice A2 k d2] 25)
  have bb := Blk.new w1 25 #[.int .i64 R.m, .int .i64 R.l, .int .i64 R.p, .slice L2 n2 c2, .slice A2 k d2]
  have ba2 := ba.alloc (.cells #[.int .i64 R.m, .int .i64 R.l, .int .i64 R.p, .slice L2 n2 c2, .slice A2 k d2] 25)
  obtain ⟨w2, hw2⟩ : ∃ w2, w1.alloc (.cells #[.int .i64 R.m, .int .i64 R.l, .int .i64 R.p, .slice L2 n2 c2, .slice A2 k d2] 25) = w2 := ⟨_, rfl⟩
  obtain ⟨h, hh⟩ : ∃ h, w1.heap.size = h := ⟨_, rfl⟩
  rw [hw2] at kb bb ba2
  rw [hh] at bb
  have kc := kb.alloc (.cells #[.int .i64 Q.m, .int .i64 Q.l, .int .i64 Q.p, .slice L3 n3 c3, .slice A3 k d3] 25)
  have bc := Blk.new w2 25 #[.int .i64 Q.m, .int .i64 Q.l, .int .i64 Q.p, .slice L3 n3 c3, .slice A3 k d3]
  have ba3 := ba2.alloc (.cells #[.int .i64 Q.m, .int .i64 Q.l, .int .i64 Q.p, .slice L3 n3 c3, .slice A3 k d3] 25)
  have bb3 := bb.alloc (.cells #[.int .i64 Q.m, .int .i64 Q.l, .int .i64 Q.p, .slice L3 n3 c3, .slice A3 k d3] 25)
  obtain ⟨w3, hw3⟩ : ∃ w3, w2.alloc (.cells #[.int .i64 Q.m, .int .i64 Q.l, .int .i64 Q.p, .slice L3 n3 c3, .slice A3 k d3] 25) = w3 := ⟨_, rfl⟩
  obtain ⟨q, hq⟩ : ∃ q, w2.heap.size = q := ⟨_, rfl⟩
  rw [hw3] at kc bc ba3 bb3
  rw [hq] at bc
  obtain ⟨u0, u1, u2, u3, u4⟩ := cell5 ba3
  obtain ⟨v0, v1, v2, v3, v4⟩ := cell5 bb3
  obtain ⟨x0, x1, x2, x3, x4⟩ := cell5 bc
  have H1 := hide (h1.kept kc)
  have H2 := hide (h2.kept kc)
  have H3 := hide (h3.kept kc)
  have HG := hide ba3
  have HH := hide bb3
  have HQ := hide bc
  have HK3 := hide kc
  have HO1 := hide o1
  have HO2 := hide o2
  have HO3 := hide o3
  have HB := hide hb
  have HS := hide hs
  have hk6 : k ≤ 6 := by rw [← h1.hk]; exact o1.few
  clear h1 h2 h3 ka ba kb bb ba2 kc bc ba3 bb3 o1 o2 o3 hb hs
  go_enter Try.func23, Try.ntmps23
  go_wp2
  clear u0 u1 u2 u3 u4 v0 v1 v2 v3 v4 x0 x1 x2 x3 x4
  go_loopw [7] (fun i wr => ∃ j : Nat, j ≤ k ∧ i = .int .i64 j ∧ Hid (Kept [] w3 wr)) (fun i wr => k - (intOf i).toNat)
  case atStart => exact ⟨0, Nat.zero_le _, rfl, hide (Kept.refl _ _)⟩
  case round =>
    obtain ⟨j, hj, rfl, HK⟩ := hrel
    have u4 := (HK.out.blk HG.out (by simp)).cell 4
    have v4 := (HK.out.blk HH.out (by simp)).cell 4
    have x4 := (HK.out.blk HQ.out (by simp)).cell 4
    replace u4 : wr.cell? ⟨g, 4, none⟩ = some (.slice A1 k d1) := u4
    replace v4 : wr.cell? ⟨h, 4, none⟩ = some (.slice A2 k d2) := v4
    replace x4 : wr.cell? ⟨q, 4, none⟩ = some (.slice A3 k d3) := x4
    by_cases hlt : j < k
    · obtain ⟨x, hx⟩ : ∃ x, Y.bks[j]? = some x := ⟨_, List.getElem?_eq_getElem (by rw [H1.out.hk]; exact hlt)⟩
      obtain ⟨y, hy⟩ : ∃ y, R.bks[j]? = some y := ⟨_, List.getElem?_eq_getElem (by rw [H2.out.hk]; exact hlt)⟩
      obtain ⟨z, hz⟩ : ∃ z, Q.bks[j]? = some z := ⟨_, List.getElem?_eq_getElem (by rw [H3.out.hk]; exact hlt)⟩
      have hor : x = y ∨ x = z := by
        have := HB.out j x hx
        rw [hy, hz] at this
        rcases this with h | h
        · injection h with h; exact .inl h.symm
        · injection h with h; exact .inr h.symm
      obtain ⟨ad1, B1, b1, rfl, a0, m1, p1⟩ := (H1.out.bks.kept HK.out).at_ j _ hx
      obtain ⟨ad2, B2, b2, rfl, b0, m2, p2⟩ := (H2.out.bks.kept HK.out).at_ j _ hy
      obtain ⟨ad3, B3, b3, rfl, e0, m3, p3⟩ := (H3.out.bks.kept HK.out).at_ j _ hz
      have HV1 := hide p1
      have HV2 := hide p2
      have HV3 := hide p3
      have HM1 := hide m1
      obtain ⟨l1, hl1⟩ : ∃ l, x.length = l := ⟨_, rfl⟩
      obtain ⟨l2, hl2⟩ : ∃ l, y.length = l := ⟨_, rfl⟩
      obtain ⟨l3, hl3⟩ : ∃ l, z.length = l := ⟨_, rfl⟩
      rw [hl1] at a0 HM1
      rw [hl2] at b0
      rw [hl3] at e0
      have HL1 := hide hl1
      have HL2 := hide hl2
      have HL3 := hide hl3
      clear hx hy hz p1 p2 p3 m1 m2 m3 hl1 hl2 hl3
      by_cases hxy : x = y
      · have HXY : Hid (decide (x = y) = true) := hide (decide_eq_true hxy)
        clear hxy hor
        go_wp2
        -- REGION SAME
        refine wp_region_noPanic ?_
        refine wp_region_held_drew (S := fun W => Kept [] wr W ∧ W.cell? ⟨g, 4, none⟩ = some (.slice (some ad1) k d1) ∧ W.cell? ⟨h, 4, none⟩ = some (.slice (some ad2) k d2) ∧ W.cell? ⟨q, 4, none⟩ = some (.slice (some ad3) k d3) ∧ W.cell? (ad1.add j) = some (.slice B1 l1 b1) ∧ W.cell? (ad2.add j) = some (.slice B2 l2 b2) ∧ W.cell? (ad3.add j) = some (.slice B3 l3 b3)) (by kernel_rfl) (by exact ⟨(Kept.refl [] wr).drew, u4, v4, x4, a0, b0, e0⟩) (fun hHeld => ?_)
        refine wpAnyH_take (i := 0) (oi := ⟨some 40, _, _, _, _, _⟩) (v := ?v1) rfl (by kernel_rfl) (by kernel_rfl) (by kernel_rfl) (fun _ _ _ h => h) (Or.inl ⟨by rfl, ?hy1⟩) (by assumption) ?rest1
        case hy1 => (intro W hSw; (try dsimp only at hSw); go_simp; try with_reducible rfl)
        try simp only [Act.put, List.setIfInBounds_toArray, List.set_cons_zero, List.set_cons_succ]
        refine wpAnyH_take (i := 1) (oi := ⟨some 41, _, _, _, _, _⟩) (v := ?v2) rfl (by kernel_rfl) (by kernel_rfl) (by kernel_rfl) (fun _ _ _ h => h) (Or.inl ⟨by rfl, ?hy2⟩) (by assumption) ?rest2
        case hy2 => (intro W hSw; (try dsimp only at hSw); go_simp; try with_reducible rfl)
        try simp only [Act.put, List.setIfInBounds_toArray, List.set_cons_zero, List.set_cons_succ]
        refine wpAnyH_take (i := 2) (oi := ⟨some 42, _, _, _, _, _⟩) (v := ?v3) rfl (by kernel_rfl) (by kernel_rfl) (by kernel_rfl) (fun _ _ _ h => h) (Or.inl ⟨by rfl, ?hy3⟩) (by assumption) ?rest3
        case hy3 => (intro W hSw; (try dsimp only at hSw); go_simp; try with_reducible rfl)
        try simp only [Act.put, List.setIfInBounds_toArray, List.set_cons_zero, List.set_cons_succ]
        refine wpAnyH_take (i := 3) (oi := ⟨some 43, _, _, _, _, _⟩) (v := ?v4) rfl (by kernel_rfl) (by kernel_rfl) (by kernel_rfl) (fun _ _ _ h => h) (Or.inl ⟨by rfl, ?hy4⟩) (by assumption) ?rest4
        case hy4 => (intro W hSw; (try dsimp only at hSw); go_simp; try with_reducible rfl)
        try simp only [Act.put, List.setIfInBounds_toArray, List.set_cons_zero, List.set_cons_succ]
        refine wpAnyH_take (i := 4) (oi := ⟨some 44, _, _, _, _, _⟩) (v := ?v5) rfl (by kernel_rfl) (by kernel_rfl) (by kernel_rfl) (fun _ _ _ h => h) (Or.inl ⟨by rfl, ?hy5⟩) (by assumption) ?rest5
        case hy5 => (intro W hSw; (try dsimp only at hSw); go_simp; try with_reducible rfl)
        try simp only [Act.put, List.setIfInBounds_toArray, List.set_cons_zero, List.set_cons_succ]
        refine wpAnyH_take (i := 5) (oi := ⟨some 45, _, _, _, _, _⟩) (v := ?v6) rfl (by kernel_rfl) (by kernel_rfl) (by kernel_rfl) (fun _ _ _ h => h) (Or.inl ⟨by rfl, ?hy6⟩) (by assumption) ?rest6
        case hy6 => (intro W hSw; (try dsimp only at hSw); go_simp; try with_reducible rfl)
        try simp only [Act.put, List.setIfInBounds_toArray, List.set_cons_zero, List.set_cons_succ]
        refine wpAnyH_take (i := 6) (oi := ⟨some 46, _, _, _, _, _⟩) (v := ?v7) rfl (by kernel_rfl) (by kernel_rfl) (by kernel_rfl) (fun _ _ _ h => h) (Or.inl ⟨by rfl, ?hy7⟩) (by assumption) ?rest7
        case hy7 => (intro W hSw; (try dsimp only at hSw); go_simp; try with_reducible rfl)
        try simp only [Act.put, List.setIfInBounds_toArray, List.set_cons_zero, List.set_cons_succ]
        refine wpAnyH_take (i := 7) (oi := ⟨some 47, _, _, _, _, _⟩) (v := ?v8) rfl (by kernel_rfl) (by kernel_rfl) (by kernel_rfl) (fun _ _ _ h => h) (Or.inl ⟨by rfl, ?hy8⟩) (by assumption) ?rest8
        case hy8 => (intro W hSw; (try dsimp only at hSw); go_simp; try with_reducible rfl)
        try simp only [Act.put, List.setIfInBounds_toArray, List.set_cons_zero, List.set_cons_succ]
        refine wpAnyH_take (i := 8) (oi := ⟨some 48, _, _, _, _, _⟩) (v := ?v9) rfl (by kernel_rfl) (by kernel_rfl) (by kernel_rfl) (fun _ _ _ h => h) (Or.inl ⟨by rfl, ?hy9⟩) (by assumption) ?rest9
        case hy9 => (intro W hSw; (try dsimp only at hSw); go_simp; try with_reducible rfl)
        try simp only [Act.put, List.setIfInBounds_toArray, List.set_cons_zero, List.set_cons_succ]
        refine wpAnyH_take (i := 9) (oi := ⟨some 49, _, _, _, _, _⟩) (v := ?v10) rfl (by kernel_rfl) (by kernel_rfl) (by kernel_rfl) (fun _ _ _ h => h) (Or.inl ⟨by rfl, ?hy10⟩) (by assumption) ?rest10
        case hy10 => (intro W hSw; (try dsimp only at hSw); go_simp; try with_reducible rfl)
        try simp only [Act.put, List.setIfInBounds_toArray, List.set_cons_zero, List.set_cons_succ]
        refine held_one (i := 10) (o := ⟨some 50, _, _, _, _, _⟩) rfl (by kernel_rfl) (by rfl) (fun K hK => ?_)
        go_simp
        refine (base.bytes_any B1 B2 l1 l2 b1 b2 x y _ HL1.out HL2.out (HV1.out.kept hHeld.1 (by simp)) (HV2.out.kept hHeld.1 (by simp)) HM1.out).mono ?_
        rintro e w2 ⟨rfl, dd, hw2⟩
        have hkw : Kept [] _ w2 := hw2 ▸ ((Kept.refl [] _).drewN dd)
        clear hw2
        rw [HXY.out]
        refine hK.out _ _ (by exact mxheld hHeld hkw) (fun hHeld => ?_)
        clear hK K
        try simp only [Act.put, List.setIfInBounds_toArray, List.set_cons_zero, List.set_cons_succ]
        refine wpAnyH_take (i := 11) (oi := ⟨some 51, _, _, _, _, _⟩) (v := ?v11) rfl (by kernel_rfl) (by kernel_rfl) (by kernel_rfl) (fun _ _ _ h => h) (Or.inl ⟨by rfl, ?hy11⟩) (by assumption) ?rest11
        case hy11 => (intro W hSw; (try dsimp only at hSw); go_simp; try with_reducible rfl)
        try simp only [Act.put, List.setIfInBounds_toArray, List.set_cons_zero, List.set_cons_succ]
        refine wpAnyH_take (i := 12) (oi := ⟨some 52, _, _, _, _, _⟩) (v := ?v12) rfl (by kernel_rfl) (by kernel_rfl) (by kernel_rfl) (fun _ _ _ h => h) (Or.inl ⟨by rfl, ?hy12⟩) (by assumption) ?rest12
        case hy12 => (intro W hSw; (try dsimp only at hSw); go_simp; try with_reducible rfl)
        try simp only [Act.put, List.setIfInBounds_toArray, List.set_cons_zero, List.set_cons_succ]
        refine wpAnyH_take (i := 13) (oi := ⟨some 53, _, _, _, _, _⟩) (v := undef) rfl (by kernel_rfl) (by kernel_rfl) (by kernel_rfl) (fun _ _ _ h => h) (Or.inr ⟨by rfl, rfl⟩) (by assumption) ?_
        try simp only [Act.put, List.setIfInBounds_toArray, List.set_cons_zero, List.set_cons_succ]
        refine wpAnyH_take (i := 14) (oi := ⟨some 54, _, _, _, _, _⟩) (v := undef) rfl (by kernel_rfl) (by kernel_rfl) (by kernel_rfl) (fun _ _ _ h => h) (Or.inr ⟨by rfl, rfl⟩) (by assumption) ?_
        try simp only [Act.put, List.setIfInBounds_toArray, List.set_cons_zero, List.set_cons_succ]
        refine wpAnyH_take (i := 15) (oi := ⟨some 55, _, _, _, _, _⟩) (v := undef) rfl (by kernel_rfl) (by kernel_rfl) (by kernel_rfl) (fun _ _ _ h => h) (Or.inr ⟨by rfl, rfl⟩) (by assumption) ?_
        try simp only [Act.put, List.setIfInBounds_toArray, List.set_cons_zero, List.set_cons_succ]
        refine wpAnyH_take (i := 16) (oi := ⟨some 56, _, _, _, _, _⟩) (v := undef) rfl (by kernel_rfl) (by kernel_rfl) (by kernel_rfl) (fun _ _ _ h => h) (Or.inr ⟨by rfl, rfl⟩) (by assumption) ?_
        try simp only [Act.put, List.setIfInBounds_toArray, List.set_cons_zero, List.set_cons_succ]
        refine wpAnyH_take (i := 17) (oi := ⟨some 57, _, _, _, _, _⟩) (v := undef) rfl (by kernel_rfl) (by kernel_rfl) (by kernel_rfl) (fun _ _ _ h => h) (Or.inr ⟨by rfl, rfl⟩) (by assumption) ?_
        try simp only [Act.put, List.setIfInBounds_toArray, List.set_cons_zero, List.set_cons_succ]
        refine wpAnyH_take (i := 18) (oi := ⟨some 58, _, _, _, _, _⟩) (v := undef) rfl (by kernel_rfl) (by kernel_rfl) (by kernel_rfl) (fun _ _ _ h => h) (Or.inr ⟨by rfl, rfl⟩) (by assumption) ?_
        try simp only [Act.put, List.setIfInBounds_toArray, List.set_cons_zero, List.set_cons_succ]
        refine wpAnyH_take (i := 19) (oi := ⟨some 59, _, _, _, _, _⟩) (v := undef) rfl (by kernel_rfl) (by kernel_rfl) (by kernel_rfl) (fun _ _ _ h => h) (Or.inr ⟨by rfl, rfl⟩) (by assumption) ?_
        try simp only [Act.put, List.setIfInBounds_toArray, List.set_cons_zero, List.set_cons_succ]
        refine wpAnyH_take (i := 20) (oi := ⟨some 60, _, _, _, _, _⟩) (v := undef) rfl (by kernel_rfl) (by kernel_rfl) (by kernel_rfl) (fun _ _ _ h => h) (Or.inr ⟨by rfl, rfl⟩) (by assumption) ?_
        try simp only [Act.put, List.setIfInBounds_toArray, List.set_cons_zero, List.set_cons_succ]
        refine wpAnyH_take (i := 21) (oi := ⟨some 61, _, _, _, _, _⟩) (v := undef) rfl (by kernel_rfl) (by kernel_rfl) (by kernel_rfl) (fun _ _ _ h => h) (Or.inr ⟨by rfl, rfl⟩) (by assumption) ?_
        try simp only [Act.put, List.setIfInBounds_toArray, List.set_cons_zero, List.set_cons_succ]
        refine wpAnyH_take (i := 22) (oi := ⟨some 62, _, _, _, _, _⟩) (v := undef) rfl (by kernel_rfl) (by kernel_rfl) (by kernel_rfl) (fun _ _ _ h => h) (Or.inr ⟨by rfl, rfl⟩) (by assumption) ?_
        try simp only [Act.put, List.setIfInBounds_toArray, List.set_cons_zero, List.set_cons_succ]
        refine wpAnyH_take (i := 23) (oi := ⟨some 63, _, _, _, _, _⟩) (v := undef) rfl (by kernel_rfl) (by kernel_rfl) (by kernel_rfl) (fun _ _ _ h => h) (Or.inr ⟨by rfl, rfl⟩) (by assumption) ?_
        try simp only [Act.put, List.setIfInBounds_toArray, List.set_cons_zero, List.set_cons_succ]
        refine wpAnyH_take (i := 24) (oi := ⟨some 64, _, _, _, _, _⟩) (v := undef) rfl (by kernel_rfl) (by kernel_rfl) (by kernel_rfl) (fun _ _ _ h => h) (Or.inr ⟨by rfl, rfl⟩) (by assumption) ?_
        try simp only [Act.put, List.setIfInBounds_toArray, List.set_cons_zero, List.set_cons_succ]
        refine wpAnyH_take (i := 25) (oi := ⟨some 65, _, _, _, _, _⟩) (v := ?v13) rfl (by kernel_rfl) (by kernel_rfl) (by kernel_rfl) (fun _ _ _ h => h) (Or.inl ⟨by rfl, ?hy13⟩) (by assumption) ?rest13
        case hy13 => (intro W hSw; (try dsimp only at hSw); go_simp; try with_reducible rfl)
        try simp only [Act.put, List.setIfInBounds_toArray, List.set_cons_zero, List.set_cons_succ]
        refine wpAnyH_done (by kernel_rfl) ?_ _
        refine NoPanic.normal ?_
        -- END
        have HK2 := hide (HK.out.trans hHeld.1 (by simp))
        clear hHeld
        go_wp2
        go_roundw
        case rel => exact ⟨j + 1, by omega, by go_num, HK2⟩
        case measure => simp [intOf]; omega
      · have HXY : Hid (decide (x = y) = false) := hide (decide_eq_false hxy)
        have HXZ : Hid (decide (x = z) = true) := hide (decide_eq_true (hor.resolve_left hxy))
        clear hxy hor
        go_wp2
        -- REGION OTHER
        refine wp_region_noPanic ?_
        refine wp_region_held_drew (S := fun W => Kept [] wr W ∧ W.cell? ⟨g, 4, none⟩ = some (.slice (some ad1) k d1) ∧ W.cell? ⟨h, 4, none⟩ = some (.slice (some ad2) k d2) ∧ W.cell? ⟨q, 4, none⟩ = some (.slice (some ad3) k d3) ∧ W.cell? (ad1.add j) = some (.slice B1 l1 b1) ∧ W.cell? (ad2.add j) = some (.slice B2 l2 b2) ∧ W.cell? (ad3.add j) = some (.slice B3 l3 b3)) (by kernel_rfl) (by exact ⟨(Kept.refl [] wr).drew, u4, v4, x4, a0, b0, e0⟩) (fun hHeld => ?_)
        refine wpAnyH_take (i := 0) (oi := ⟨some 40, _, _, _, _, _⟩) (v := ?v14) rfl (by kernel_rfl) (by kernel_rfl) (by kernel_rfl) (fun _ _ _ h => h) (Or.inl ⟨by rfl, ?hy14⟩) (by assumption) ?rest14
        case hy14 => (intro W hSw; (try dsimp only at hSw); go_simp; try with_reducible rfl)
        try simp only [Act.put, List.setIfInBounds_toArray, List.set_cons_zero, List.set_cons_succ]
        refine wpAnyH_take (i := 1) (oi := ⟨some 41, _, _, _, _, _⟩) (v := ?v15) rfl (by kernel_rfl) (by kernel_rfl) (by kernel_rfl) (fun _ _ _ h => h) (Or.inl ⟨by rfl, ?hy15⟩) (by assumption) ?rest15
        case hy15 => (intro W hSw; (try dsimp only at hSw); go_simp; try with_reducible rfl)
        try simp only [Act.put, List.setIfInBounds_toArray, List.set_cons_zero, List.set_cons_succ]
        refine wpAnyH_take (i := 2) (oi := ⟨some 42, _, _, _, _, _⟩) (v := ?v16) rfl (by kernel_rfl) (by kernel_rfl) (by kernel_rfl) (fun _ _ _ h => h) (Or.inl ⟨by rfl, ?hy16⟩) (by assumption) ?rest16
        case hy16 => (intro W hSw; (try dsimp only at hSw); go_simp; try with_reducible rfl)
        try simp only [Act.put, List.setIfInBounds_toArray, List.set_cons_zero, List.set_cons_succ]
        refine wpAnyH_take (i := 3) (oi := ⟨some 43, _, _, _, _, _⟩) (v := ?v17) rfl (by kernel_rfl) (by kernel_rfl) (by kernel_rfl) (fun _ _ _ h => h) (Or.inl ⟨by rfl, ?hy17⟩) (by assumption) ?rest17
        case hy17 => (intro W hSw; (try dsimp only at hSw); go_simp; try with_reducible rfl)
        try simp only [Act.put, List.setIfInBounds_toArray, List.set_cons_zero, List.set_cons_succ]
        refine wpAnyH_take (i := 4) (oi := ⟨some 44, _, _, _, _, _⟩) (v := ?v18) rfl (by kernel_rfl) (by kernel_rfl) (by kernel_rfl) (fun _ _ _ h => h) (Or.inl ⟨by rfl, ?hy18⟩) (by assumption) ?rest18
        case hy18 => (intro W hSw; (try dsimp only at hSw); go_simp; try with_reducible rfl)
        try simp only [Act.put, List.setIfInBounds_toArray, List.set_cons_zero, List.set_cons_succ]
        refine wpAnyH_take (i := 5) (oi := ⟨some 45, _, _, _, _, _⟩) (v := ?v19) rfl (by kernel_rfl) (by kernel_rfl) (by kernel_rfl) (fun _ _ _ h => h) (Or.inl ⟨by rfl, ?hy19⟩) (by assumption) ?rest19
        case hy19 => (intro W hSw; (try dsimp only at hSw); go_simp; try with_reducible rfl)
        try simp only [Act.put, List.setIfInBounds_toArray, List.set_cons_zero, List.set_cons_succ]
        refine wpAnyH_take (i := 6) (oi := ⟨some 46, _, _, _, _, _⟩) (v := ?v20) rfl (by kernel_rfl) (by kernel_rfl) (by kernel_rfl) (fun _ _ _ h => h) (Or.inl ⟨by rfl, ?hy20⟩) (by assumption) ?rest20
        case hy20 => (intro W hSw; (try dsimp only at hSw); go_simp; try with_reducible rfl)
        try simp only [Act.put, List.setIfInBounds_toArray, List.set_cons_zero, List.set_cons_succ]
        refine wpAnyH_take (i := 7) (oi := ⟨some 47, _, _, _, _, _⟩) (v := ?v21) rfl (by kernel_rfl) (by kernel_rfl) (by kernel_rfl) (fun _ _ _ h => h) (Or.inl ⟨by rfl, ?hy21⟩) (by assumption) ?rest21
        case hy21 => (intro W hSw; (try dsimp only at hSw); go_simp; try with_reducible rfl)
        try simp only [Act.put, List.setIfInBounds_toArray, List.set_cons_zero, List.set_cons_succ]
        refine wpAnyH_take (i := 8) (oi := ⟨some 48, _, _, _, _, _⟩) (v := ?v22) rfl (by kernel_rfl) (by kernel_rfl) (by kernel_rfl) (fun _ _ _ h => h) (Or.inl ⟨by rfl, ?hy22⟩) (by assumption) ?rest22
        case hy22 => (intro W hSw; (try dsimp only at hSw); go_simp; try with_reducible rfl)
        try simp only [Act.put, List.setIfInBounds_toArray, List.set_cons_zero, List.set_cons_succ]
        refine wpAnyH_take (i := 9) (oi := ⟨some 49, _, _, _, _, _⟩) (v := ?v23) rfl (by kernel_rfl) (by kernel_rfl) (by kernel_rfl) (fun _ _ _ h => h) (Or.inl ⟨by rfl, ?hy23⟩) (by assumption) ?rest23
        case hy23 => (intro W hSw; (try dsimp only at hSw); go_simp; try with_reducible rfl)
        try simp only [Act.put, List.setIfInBounds_toArray, List.set_cons_zero, List.set_cons_succ]
        refine held_one (i := 10) (o := ⟨some 50, _, _, _, _, _⟩) rfl (by kernel_rfl) (by rfl) (fun K hK => ?_)
        go_simp
        refine (base.bytes_any B1 B2 l1 l2 b1 b2 x y _ HL1.out HL2.out (HV1.out.kept hHeld.1 (by simp)) (HV2.out.kept hHeld.1 (by simp)) HM1.out).mono ?_
        rintro e w2 ⟨rfl, dd, hw2⟩
        have hkw : Kept [] _ w2 := hw2 ▸ ((Kept.refl [] _).drewN dd)
        clear hw2
        rw [HXY.out]
        refine hK.out _ _ (by exact mxheld hHeld hkw) (fun hHeld => ?_)
        clear hK K
        try simp only [Act.put, List.setIfInBounds_toArray, List.set_cons_zero, List.set_cons_succ]
        refine wpAnyH_take (i := 11) (oi := ⟨some 51, _, _, _, _, _⟩) (v := ?v24) rfl (by kernel_rfl) (by kernel_rfl) (by kernel_rfl) (fun _ _ _ h => h) (Or.inl ⟨by rfl, ?hy24⟩) (by assumption) ?rest24
        case hy24 => (intro W hSw; (try dsimp only at hSw); go_simp; try with_reducible rfl)
        try simp only [Act.put, List.setIfInBounds_toArray, List.set_cons_zero, List.set_cons_succ]
        refine wpAnyH_take (i := 12) (oi := ⟨some 52, _, _, _, _, _⟩) (v := ?v25) rfl (by kernel_rfl) (by kernel_rfl) (by kernel_rfl) (fun _ _ _ h => h) (Or.inl ⟨by rfl, ?hy25⟩) (by assumption) ?rest25
        case hy25 => (intro W hSw; (try dsimp only at hSw); go_simp; try with_reducible rfl)
        try simp only [Act.put, List.setIfInBounds_toArray, List.set_cons_zero, List.set_cons_succ]
        refine wpAnyH_take (i := 13) (oi := ⟨some 53, _, _, _, _, _⟩) (v := ?v26) rfl (by kernel_rfl) (by kernel_rfl) (by kernel_rfl) (fun _ _ _ h => h) (Or.inl ⟨by rfl, ?hy26⟩) (by assumption) ?rest26
        case hy26 => (intro W hSw; (try dsimp only at hSw); go_simp; try with_reducible rfl)
        try simp only [Act.put, List.setIfInBounds_toArray, List.set_cons_zero, List.set_cons_succ]
        refine wpAnyH_take (i := 14) (oi := ⟨some 54, _, _, _, _, _⟩) (v := ?v27) rfl (by kernel_rfl) (by kernel_rfl) (by kernel_rfl) (fun _ _ _ h => h) (Or.inl ⟨by rfl, ?hy27⟩) (by assumption) ?rest27
        case hy27 => (intro W hSw; (try dsimp only at hSw); go_simp; try with_reducible rfl)
        try simp only [Act.put, List.setIfInBounds_toArray, List.set_cons_zero, List.set_cons_succ]
        refine wpAnyH_take (i := 15) (oi := ⟨some 55, _, _, _, _, _⟩) (v := ?v28) rfl (by kernel_rfl) (by kernel_rfl) (by kernel_rfl) (fun _ _ _ h => h) (Or.inl ⟨by rfl, ?hy28⟩) (by assumption) ?rest28
        case hy28 => (intro W hSw; (try dsimp only at hSw); go_simp; try with_reducible rfl)
        try simp only [Act.put, List.setIfInBounds_toArray, List.set_cons_zero, List.set_cons_succ]
        refine wpAnyH_take (i := 16) (oi := ⟨some 56, _, _, _, _, _⟩) (v := ?v29) rfl (by kernel_rfl) (by kernel_rfl) (by kernel_rfl) (fun _ _ _ h => h) (Or.inl ⟨by rfl, ?hy29⟩) (by assumption) ?rest29
        case hy29 => (intro W hSw; (try dsimp only at hSw); go_simp; try with_reducible rfl)
        try simp only [Act.put, List.setIfInBounds_toArray, List.set_cons_zero, List.set_cons_succ]
        refine wpAnyH_take (i := 17) (oi := ⟨some 57, _, _, _, _, _⟩) (v := ?v30) rfl (by kernel_rfl) (by kernel_rfl) (by kernel_rfl) (fun _ _ _ h => h) (Or.inl ⟨by rfl, ?hy30⟩) (by assumption) ?rest30
        case hy30 => (intro W hSw; (try dsimp only at hSw); go_simp; try with_reducible rfl)
        try simp only [Act.put, List.setIfInBounds_toArray, List.set_cons_zero, List.set_cons_succ]
        refine wpAnyH_take (i := 18) (oi := ⟨some 58, _, _, _, _, _⟩) (v := ?v31) rfl (by kernel_rfl) (by kernel_rfl) (by kernel_rfl) (fun _ _ _ h => h) (Or.inl ⟨by rfl, ?hy31⟩) (by assumption) ?rest31
        case hy31 => (intro W hSw; (try dsimp only at hSw); go_simp; try with_reducible rfl)
        try simp only [Act.put, List.setIfInBounds_toArray, List.set_cons_zero, List.set_cons_succ]
        refine wpAnyH_take (i := 19) (oi := ⟨some 59, _, _, _, _, _⟩) (v := ?v32) rfl (by kernel_rfl) (by kernel_rfl) (by kernel_rfl) (fun _ _ _ h => h) (Or.inl ⟨by rfl, ?hy32⟩) (by assumption) ?rest32
        case hy32 => (intro W hSw; (try dsimp only at hSw); go_simp; try with_reducible rfl)
        try simp only [Act.put, List.setIfInBounds_toArray, List.set_cons_zero, List.set_cons_succ]
        refine wpAnyH_take (i := 20) (oi := ⟨some 60, _, _, _, _, _⟩) (v := ?v33) rfl (by kernel_rfl) (by kernel_rfl) (by kernel_rfl) (fun _ _ _ h => h) (Or.inl ⟨by rfl, ?hy33⟩) (by assumption) ?rest33
        case hy33 => (intro W hSw; (try dsimp only at hSw); go_simp; try with_reducible rfl)
        try simp only [Act.put, List.setIfInBounds_toArray, List.set_cons_zero, List.set_cons_succ]
        refine wpAnyH_take (i := 21) (oi := ⟨some 61, _, _, _, _, _⟩) (v := ?v34) rfl (by kernel_rfl) (by kernel_rfl) (by kernel_rfl) (fun _ _ _ h => h) (Or.inl ⟨by rfl, ?hy34⟩) (by assumption) ?rest34
        case hy34 => (intro W hSw; (try dsimp only at hSw); go_simp; try with_reducible rfl)
        try simp only [Act.put, List.setIfInBounds_toArray, List.set_cons_zero, List.set_cons_succ]
        refine wpAnyH_take (i := 22) (oi := ⟨some 62, _, _, _, _, _⟩) (v := ?v35) rfl (by kernel_rfl) (by kernel_rfl) (by kernel_rfl) (fun _ _ _ h => h) (Or.inl ⟨by rfl, ?hy35⟩) (by assumption) ?rest35
        case hy35 => (intro W hSw; (try dsimp only at hSw); go_simp; try with_reducible rfl)
        try simp only [Act.put, List.setIfInBounds_toArray, List.set_cons_zero, List.set_cons_succ]
        refine held_one (i := 23) (o := ⟨some 63, _, _, _, _, _⟩) rfl (by kernel_rfl) (by rfl) (fun K hK => ?_)
        go_simp
        refine (base.bytes_any B1 B3 l1 l3 b1 b3 x z _ HL1.out HL3.out (HV1.out.kept hHeld.1 (by simp)) (HV3.out.kept hHeld.1 (by simp)) HM1.out).mono ?_
        rintro e w2 ⟨rfl, dd, hw2⟩
        have hkw : Kept [] _ w2 := hw2 ▸ ((Kept.refl [] _).drewN dd)
        clear hw2
        rw [HXZ.out]
        refine hK.out _ _ (by exact mxheld hHeld hkw) (fun hHeld => ?_)
        clear hK K
        try simp only [Act.put, List.setIfInBounds_toArray, List.set_cons_zero, List.set_cons_succ]
        refine wpAnyH_take (i := 24) (oi := ⟨some 64, _, _, _, _, _⟩) (v := ?v36) rfl (by kernel_rfl) (by kernel_rfl) (by kernel_rfl) (fun _ _ _ h => h) (Or.inl ⟨by rfl, ?hy36⟩) (by assumption) ?rest36
        case hy36 => (intro W hSw; (try dsimp only at hSw); go_simp; try with_reducible rfl)
        try simp only [Act.put, List.setIfInBounds_toArray, List.set_cons_zero, List.set_cons_succ]
        refine wpAnyH_take (i := 25) (oi := ⟨some 65, _, _, _, _, _⟩) (v := ?v37) rfl (by kernel_rfl) (by kernel_rfl) (by kernel_rfl) (fun _ _ _ h => h) (Or.inl ⟨by rfl, ?hy37⟩) (by assumption) ?rest37
        case hy37 => (intro W hSw; (try dsimp only at hSw); go_simp; try with_reducible rfl)
        try simp only [Act.put, List.setIfInBounds_toArray, List.set_cons_zero, List.set_cons_succ]
        refine wpAnyH_done (by kernel_rfl) ?_ _
        refine NoPanic.normal ?_
        -- END
        have HK2 := hide (HK.out.trans hHeld.1 (by simp))
        clear hHeld
        go_wp2
        go_roundw
        case rel => exact ⟨j + 1, by omega, by go_num, HK2⟩
        case measure => simp [intOf]; omega
    · obtain ⟨u0, u1, u2, u3, u4⟩ := cell5 (HK.out.blk HG.out (by simp))
      clear v4 x4
      go_wp2_with fail
      refine (encode_yes Y L1 A1 n1 c1 k d1 _ (H1.out.kept HK.out) HO1.out).mono ?_
      rintro e w4 ⟨P4, p4, rfl, _, hk⟩
      have HK4 := hide (HK.out.trans hk (by simp))
      clear hk u0 u1 u2 u3 u4
      obtain ⟨v0, v1, v2, v3, v4⟩ := cell5 (HK4.out.blk HH.out (by simp))
      go_wp2_with fail
      refine (encode_yes R L2 A2 n2 c2 k d2 _ (H2.out.kept HK4.out) HO2.out).mono ?_
      rintro e w5 ⟨P5, p5, rfl, _, hk⟩
      have HK5 := hide (HK4.out.trans hk (by simp))
      clear hk v0 v1 v2 v3 v4
      obtain ⟨x0, x1, x2, x3, x4⟩ := cell5 (HK5.out.blk HQ.out (by simp))
      go_wp2_with fail
      refine (encode_yes Q L3 A3 n3 c3 k d3 _ (H3.out.kept HK5.out) HO3.out).mono ?_
      rintro e w6 ⟨P6, p6, rfl, _, hk⟩
      have HK6 := hide (HK5.out.trans hk (by simp))
      clear hk x0 x1 x2 x3 x4
      obtain ⟨N, hN⟩ : ∃ N, 64 * (1 + k) = N := ⟨_, rfl⟩
      rw [hN]
      have hN2 : (64 : Int) ≤ N := by omega
      obtain ⟨s, hs⟩ : ∃ s, Y.sum = s := ⟨_, rfl⟩
      obtain ⟨t, ht⟩ : ∃ t, R.sum = t := ⟨_, rfl⟩
      obtain ⟨u, hu⟩ : ∃ u, Q.sum = u := ⟨_, rfl⟩
      have hor := HS.out
      rw [hs, ht, hu] at hor
      rw [hs, ht, hu]
      clear hs ht hu hN HS
      by_cases hst : s = t
      · have z1 : ((s : Int) == (t : Int)) = true := by rw [beq_iff_eq, hst]
        clear hor hst
        go_wp2
        go_ret
        exact ⟨rfl, HK3.out.trans HK6.out (by simp)⟩
      · have z1 : ((s : Int) == (t : Int)) = false := by rw [beq_eq_false_iff_ne]; omega
        have z2 : ((s : Int) == (u : Int)) = true := by rw [beq_iff_eq, hor.resolve_left hst]
        clear hor hst
        go_wp2
        go_ret
        exact ⟨rfl, HK3.out.trans HK6.out (by simp)⟩
end Go.Proofs.Ytepooidgmaokeaa.record
