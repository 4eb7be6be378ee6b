/- Package region: Choose. (Written by tools/genrgchoose.py.) -/
import Derived.Test.YthacnlpdodlggaaRegionDec
namespace Go.Proofs.Ythacnlpdodlggaa.rg
set_option linter.unusedSimpArgs false
open Go.RowKit Go.Proofs.Ythacnlpdodlggaa.mem Go.Proofs.Ythacnlpdodlggaa.base Go.Proofs.Ythacnlpdodlggaa.row Go.Proofs.Ythacnlpdodlggaa.rowBack Go.Proofs.Ythacnlpdodlggaa.fill Go.Proofs.Ythacnlpdodlggaa.crc Go.Proofs.Ythacnlpdodlggaa.crcMath

/-- What is best behind one more of them. -/
noncomputable def better (D : Dv) (bs : List UInt8) (i : Int) (x : Rg × Int × Int) : Rg × Int × Int := if (decode D bs).1.g > x.1.g then ((decode D bs).1, i, 0) else x
theorem gen_bd (D : Dv) (bs : List UInt8) : 0 ≤ (decode D bs).1.g := by
  rcases decode_or D bs with ⟨S, h1, _, h3⟩ | h3
  · rw [h3]
    have := h1.g
    show 0 ≤ S.g
    omega
  · rw [h3]
    exact Int.le_refl 0
theorem choose_eq (D : Dv) (a b : List UInt8) : choose D a b = better D b 1 (better D a 0 (Rg.zero, 0, 2)) := by
  unfold choose better
  have hz : Rg.zero.g = 0 := rfl
  have h1 := gen_bd D a
  have h2 := gen_bd D b
  by_cases ha : (decode D a).1.g > 0
  · rw [if_pos (show (decode D a).1.g > Rg.zero.g by rw [hz]; exact ha), if_pos ha]
  · have e : (decode D a).1.g = 0 := by omega
    rw [if_neg (show ¬ (decode D a).1.g > Rg.zero.g by rw [hz]; exact ha), if_neg ha, hz, e]

theorem pick0 (A1 A2 : Option Addr) (n1 n2 c1 c2 : Nat) (w : World) : (Instr.index 93 (.agg #[.slice A1 n1 c1, .slice A2 n2 c2]) (.int .i64 0)).run Try.prog w = .ok (.slice A1 n1 c1) w := by kernel_rfl
theorem pick1 (A1 A2 : Option Addr) (n1 n2 c1 c2 : Nat) (w : World) : (Instr.index 93 (.agg #[.slice A1 n1 c1, .slice A2 n2 c2]) (.int .i64 1)).run Try.prog w = .ok (.slice A2 n2 c2) w := by kernel_rfl
/-- The best one so far, in its block q; the result's block is g. -/
structure Best (w0 wr : World) (g q : Nat) (v : Rg) (X : Sl) : Prop where
  blk : Blk wr q 28 (v.cells X)
  small : X.small
  read : ∀ S : List Nat, (∀ i ∈ S, i < w0.heap.size) → RgIn wr (q :: g :: S) X v
theorem Best.kept {w0 wr w' : World} {g q : Nat} {v : Rg} {X : Sl} (h : Best w0 wr g q v X) (k : Kept [] wr w') : Best w0 w' g q v X :=
  ⟨k.blk h.blk (by simp), h.small, fun S hS => (h.read S hS).kept k (by simp)⟩

set_option maxRecDepth 100000 in
set_option maxHeartbeats 2000000 in
theorem choose_any (G : Nat) (D : Dv) (A1 A2 : Option Addr) (n1 n2 m1 m2 : Nat) (xs ys : List UInt8) (w : World) (hG : GD w G D) (hv1 : Vals w [] A1 (xs.map B)) (hl1 : xs.length = n1) (hA1 : A1 = none → m1 = 0) (hn1 : n1 ≤ 65536)
    (hv2 : Vals w [] A2 (ys.map B)) (hl2 : ys.length = n2) (hA2 : A2 = none → m2 = 0) (hn2 : n2 ≤ 65536) :
    Calls Try.prog 16 #[.pointer (some ⟨G, 0, none⟩), .slice A1 n1 m1, .slice A2 n2 m2] w fun e w' => ∃ X, e = .returned (.tuple #[(choose D xs ys).1.val X, .int .i64 (choose D xs ys).2.1, .int .i64 (choose D xs ys).2.2]) ∧ X.small ∧ (∀ S : List Nat, (∀ i ∈ S, i < w.heap.size) → RgIn w' S X (choose D xs ys).1) ∧ Kept [] w w' := by
  have HV1 := hide hv1
  have HA1 := hide hA1
  have HL1 := hide hl1
  have HV2 := hide hv2
  have HA2 := hide hA2
  have HL2 := hide hl2
  have HGD := hide hG
  clear hv1 hA1 hl1 hv2 hA2 hl2 hG
  have HC := hide (choose_eq D xs ys)
  have i0 := pick0 A1 A2 n1 n2 m1 m2
  have i1 := pick1 A1 A2 n1 n2 m1 m2
  obtain ⟨v0, p0, e0, hx0⟩ : ∃ (v0 : Rg) (p0 e0 : Int), (v0, p0, e0) = (Rg.zero, (0 : Int), (2 : Int)) := ⟨_, _, _, rfl⟩
  obtain ⟨v1, p1, e1, hx1⟩ : ∃ (v1 : Rg) (p1 e1 : Int), better D xs 0 (v0, p0, e0) = (v1, p1, e1) := ⟨_, _, _, rfl⟩
  obtain ⟨v2, p2, e2, hx2⟩ : ∃ (v2 : Rg) (p2 e2 : Int), better D ys 1 (v1, p1, e1) = (v2, p2, e2) := ⟨_, _, _, rfl⟩
  have HX : Hid (choose D xs ys = (v2, p2, e2)) := hide (by rw [HC.out, ← hx0, hx1, hx2])
  have HX1 := hide hx1
  have HX2 := hide hx2
  have HZ := hide hx0
  clear HC hx0 hx1 hx2
  obtain ⟨g, hg⟩ : ∃ g, w.heap.size = g := ⟨_, rfl⟩
  obtain ⟨q, hq⟩ : ∃ q, g + 1 = q := ⟨_, rfl⟩
  have hgq : g ≠ q := by omega
  have HGQ : Hid (w.heap.size ≤ q) := hide (by omega)
  obtain ⟨w1, hw1⟩ : ∃ w1, (w.alloc (.cells (Rg.zero.cells Sl.zero) 28)).alloc (.cells (Rg.zero.cells Sl.zero) 28) = w1 := ⟨_, rfl⟩
  have HG : Hid (w.heap.size ≤ g) := hide (Nat.le_of_eq hg)
  have hb0 : Blk w1 g 28 (Rg.zero.cells Sl.zero) := by rw [← hw1, ← hg]; exact (Blk.new w _ _).alloc _
  have hbq : Blk w1 q 28 (Rg.zero.cells Sl.zero) := by
    have := Blk.new (w.alloc (.cells (Rg.zero.cells Sl.zero) 28)) 28 (Rg.zero.cells Sl.zero)
    rw [hw1] at this
    simpa [hg, hq] using this
  have hk1 : Kept [] w w1 := by rw [← hw1]; exact ((Kept.refl [] w).alloc _).alloc _
  have HB1 := hide hb0
  have HQ1 : Hid (Best w w1 g q Rg.zero Sl.zero) := hide ⟨hbq, ⟨by decide, by decide, by decide⟩, fun S _ => RgIn.zero _ _⟩
  have HK1 := hide hk1
  have hq1 := hbq.lt
  clear hb0 hbq hk1
  simp only [Rg.cells, Rg.zero, Sl.zero] at hw1
  have HW := hide hw1
  clear hw1
  go_enter Try.func16, Try.ntmps16
  go_wp2_with fail
  rw [HW.out]
  clear HW
  go_loopw [23, 10, 11] (fun i pl er wr => Hid (Kept [] w wr) ∧ q < wr.heap.size ∧ Hid (Blk wr g 28 (Rg.zero.cells Sl.zero)) ∧
      ((i = .int .i64 0 ∧ pl = .int .i64 p0 ∧ er = .int .i64 e0 ∧ ∃ X, Hid (Best w wr g q v0 X)) ∨
       (i = .int .i64 1 ∧ pl = .int .i64 p1 ∧ er = .int .i64 e1 ∧ ∃ X, Hid (Best w wr g q v1 X)) ∨
       (i = .int .i64 2 ∧ pl = .int .i64 p2 ∧ er = .int .i64 e2 ∧ ∃ X, Hid (Best w wr g q v2 X)))) (fun i pl er wr => 2 - (intOf i).toNat)
  case atStart =>
    have hz := HZ.out
    rw [Prod.mk.injEq, Prod.mk.injEq] at hz
    obtain ⟨rfl, rfl, rfl⟩ := hz
    exact ⟨HK1, hq1, HB1, .inl ⟨rfl, rfl, rfl, _, HQ1⟩⟩
  case round =>
    obtain ⟨HK, hqr, HB, ⟨rfl, rfl, rfl, X, HQ⟩ | ⟨rfl, rfl, rfl, X, HQ⟩ | ⟨rfl, rfl, rfl, X, HQ⟩⟩ := hrel
    · have hdd : better D xs 0 (v0, p0, e0) = if (decode D xs).1.g > v0.g then ((decode D xs).1, 0, 0) else (v0, p0, e0) := rfl
      rw [HX1.out] at hdd
      obtain ⟨u, eu, hu⟩ : ∃ u eu, decode D xs = (u, eu) := ⟨_, _, rfl⟩
      rw [hu] at hdd
      have HU := hide hu
      have HD : Hid ((v1, p1, e1) = if u.g > v0.g then (u, 0, 0) else (v0, p0, e0)) := hide hdd
      clear hdd hu
      go_wp2_with fail
      refine (decode_far G D A1 n1 m1 xs _ (HGD.out.kept HK.out) (HV1.out.kept HK.out (by simp)) HL1.out HA1.out hn1).mono ?_
      rintro e w2 ⟨Y, rfl, hYs, hin, hk⟩
      rw [HU.out] at hin ⊢
      have hk2 : Kept [] w w2 := HK.out.trans hk (by simp)
      have hlt := ((HQ.out.kept hk).blk).lt
      obtain ⟨w3, hw3⟩ : ∃ w3, w2.alloc (.cells (u.cells Y) 28) = w3 := ⟨_, rfl⟩
      have hk3 : Kept [] w2 w3 := by rw [← hw3]; exact (Kept.refl [] w2).alloc _
      have hs : Blk w3 w2.heap.size 28 (u.cells Y) := by rw [← hw3]; exact Blk.new w2 _ _
      obtain ⟨r, hr⟩ : ∃ r, w2.heap.size = r := ⟨_, rfl⟩
      rw [hr] at hs
      have HK2 := hide (hk2.trans hk3 (by simp))
      have HB2 := hide (hk3.blk (hk.blk HB.out (by simp)) (by simp))
      have HQ2 := hide ((HQ.out.kept hk).kept hk3)
      have hsz := HK.out.size
      have HIN := hide (fun (S : List Nat) (hS : ∀ i ∈ S, i < w.heap.size) => (hin (q :: g :: S) (by
        intro i hi
        simp only [List.mem_cons] at hi
        rcases hi with rfl | rfl | hi
        · exact hqr
        · omega
        · have := hS i hi
          omega)).kept hk3 (by simp))
      have hq3 : q < w3.heap.size := Nat.lt_trans (show q < r by omega) hs.lt
      obtain ⟨q0, q1, q2, q3, q4, q5, q6, q7, q8, q9, q10, q11, q12, q13⟩ := cell14 HQ2.out.blk
      obtain ⟨s0, s1, s2, s3, s4, s5, s6, s7, s8, s9, s10, s11, s12, s13⟩ := cell14 hs
      unfold Rg.cells at hw3
      have HS2 := hide hs
      clear hk hk2 hk3 hs hin HK HB HQ hsz
      unfold Rg.val
      by_cases hgt : u.g > v0.g
      · have hd := HD.out
        rw [if_pos hgt, Prod.mk.injEq, Prod.mk.injEq] at hd
        obtain ⟨rfl, rfl, rfl⟩ := hd
        have f0 := HQ2.out.blk.frozen 0
        have f1 := HQ2.out.blk.frozen 1
        have f2 := HQ2.out.blk.frozen 2
        have f3 := HQ2.out.blk.frozen 3
        have f4 := HQ2.out.blk.frozen 4
        have f5 := HQ2.out.blk.frozen 5
        have f6 := HQ2.out.blk.frozen 6
        have f7 := HQ2.out.blk.frozen 7
        have f8 := HQ2.out.blk.frozen 8
        have f9 := HQ2.out.blk.frozen 9
        have f10 := HQ2.out.blk.frozen 10
        have f11 := HQ2.out.blk.frozen 11
        have f12 := HQ2.out.blk.frozen 12
        have f13 := HQ2.out.blk.frozen 13
        have hqs := put14_at v1 Y HQ2.out.blk
        have hkq := put14_kept (S := [q]) v1 Y (Kept.refl [q] w3) (g := q) (.inl (by simp))
        have HQW : Hid (Best w (put14 w3 q v1 Y) g q v1 Y) := hide ⟨hqs, hYs, fun S hS => (HIN.out S hS).kept hkq (by simp)⟩
        have HKW := hide (put14_kept (S := []) v1 Y HK2.out (g := q) (.inr HGQ.out))
        have HBW := hide (hkq.blk HB2.out (by simp; exact hgq))
        have HPE := hide (put14_eq w3 q v1 Y)
        have hqw : q < (put14 w3 q v1 Y).heap.size := Nat.lt_of_lt_of_le hq3 hkq.size
        clear hqs hkq
        go_wp2
        rw [HPE.out]
        exact ⟨⟨HKW, hqw, HBW, .inr <| .inl ⟨rfl, rfl, rfl, _, HQW⟩⟩, by simp [intOf]⟩
      · have hd := HD.out
        rw [if_neg hgt, Prod.mk.injEq, Prod.mk.injEq] at hd
        obtain ⟨rfl, rfl, rfl⟩ := hd
        go_wp2
        exact ⟨⟨HK2, hq3, HB2, .inr <| .inl ⟨rfl, rfl, rfl, _, HQ2⟩⟩, by simp [intOf]⟩
    · have hdd : better D ys 1 (v1, p1, e1) = if (decode D ys).1.g > v1.g then ((decode D ys).1, 1, 0) else (v1, p1, e1) := rfl
      rw [HX2.out] at hdd
      obtain ⟨u, eu, hu⟩ : ∃ u eu, decode D ys = (u, eu) := ⟨_, _, rfl⟩
      rw [hu] at hdd
      have HU := hide hu
      have HD : Hid ((v2, p2, e2) = if u.g > v1.g then (u, 1, 0) else (v1, p1, e1)) := hide hdd
      clear hdd hu
      go_wp2_with fail
      refine (decode_far G D A2 n2 m2 ys _ (HGD.out.kept HK.out) (HV2.out.kept HK.out (by simp)) HL2.out HA2.out hn2).mono ?_
      rintro e w2 ⟨Y, rfl, hYs, hin, hk⟩
      rw [HU.out] at hin ⊢
      have hk2 : Kept [] w w2 := HK.out.trans hk (by simp)
      have hlt := ((HQ.out.kept hk).blk).lt
      obtain ⟨w3, hw3⟩ : ∃ w3, w2.alloc (.cells (u.cells Y) 28) = w3 := ⟨_, rfl⟩
      have hk3 : Kept [] w2 w3 := by rw [← hw3]; exact (Kept.refl [] w2).alloc _
      have hs : Blk w3 w2.heap.size 28 (u.cells Y) := by rw [← hw3]; exact Blk.new w2 _ _
      obtain ⟨r, hr⟩ : ∃ r, w2.heap.size = r := ⟨_, rfl⟩
      rw [hr] at hs
      have HK2 := hide (hk2.trans hk3 (by simp))
      have HB2 := hide (hk3.blk (hk.blk HB.out (by simp)) (by simp))
      have HQ2 := hide ((HQ.out.kept hk).kept hk3)
      have hsz := HK.out.size
      have HIN := hide (fun (S : List Nat) (hS : ∀ i ∈ S, i < w.heap.size) => (hin (q :: g :: S) (by
        intro i hi
        simp only [List.mem_cons] at hi
        rcases hi with rfl | rfl | hi
        · exact hqr
        · omega
        · have := hS i hi
          omega)).kept hk3 (by simp))
      have hq3 : q < w3.heap.size := Nat.lt_trans (show q < r by omega) hs.lt
      obtain ⟨q0, q1, q2, q3, q4, q5, q6, q7, q8, q9, q10, q11, q12, q13⟩ := cell14 HQ2.out.blk
      obtain ⟨s0, s1, s2, s3, s4, s5, s6, s7, s8, s9, s10, s11, s12, s13⟩ := cell14 hs
      unfold Rg.cells at hw3
      have HS2 := hide hs
      clear hk hk2 hk3 hs hin HK HB HQ hsz
      unfold Rg.val
      by_cases hgt : u.g > v1.g
      · have hd := HD.out
        rw [if_pos hgt, Prod.mk.injEq, Prod.mk.injEq] at hd
        obtain ⟨rfl, rfl, rfl⟩ := hd
        have f0 := HQ2.out.blk.frozen 0
        have f1 := HQ2.out.blk.frozen 1
        have f2 := HQ2.out.blk.frozen 2
        have f3 := HQ2.out.blk.frozen 3
        have f4 := HQ2.out.blk.frozen 4
        have f5 := HQ2.out.blk.frozen 5
        have f6 := HQ2.out.blk.frozen 6
        have f7 := HQ2.out.blk.frozen 7
        have f8 := HQ2.out.blk.frozen 8
        have f9 := HQ2.out.blk.frozen 9
        have f10 := HQ2.out.blk.frozen 10
        have f11 := HQ2.out.blk.frozen 11
        have f12 := HQ2.out.blk.frozen 12
        have f13 := HQ2.out.blk.frozen 13
        have hqs := put14_at v2 Y HQ2.out.blk
        have hkq := put14_kept (S := [q]) v2 Y (Kept.refl [q] w3) (g := q) (.inl (by simp))
        have HQW : Hid (Best w (put14 w3 q v2 Y) g q v2 Y) := hide ⟨hqs, hYs, fun S hS => (HIN.out S hS).kept hkq (by simp)⟩
        have HKW := hide (put14_kept (S := []) v2 Y HK2.out (g := q) (.inr HGQ.out))
        have HBW := hide (hkq.blk HB2.out (by simp; exact hgq))
        have HPE := hide (put14_eq w3 q v2 Y)
        have hqw : q < (put14 w3 q v2 Y).heap.size := Nat.lt_of_lt_of_le hq3 hkq.size
        clear hqs hkq
        go_wp2
        rw [HPE.out]
        exact ⟨⟨HKW, hqw, HBW, .inr <| .inr ⟨rfl, rfl, rfl, _, HQW⟩⟩, by simp [intOf]⟩
      · have hd := HD.out
        rw [if_neg hgt, Prod.mk.injEq, Prod.mk.injEq] at hd
        obtain ⟨rfl, rfl, rfl⟩ := hd
        go_wp2
        exact ⟨⟨HK2, hq3, HB2, .inr <| .inr ⟨rfl, rfl, rfl, _, HQ2⟩⟩, by simp [intOf]⟩
    · obtain ⟨q0, q1, q2, q3, q4, q5, q6, q7, q8, q9, q10, q11, q12, q13⟩ := cell14 HQ.out.blk
      obtain ⟨d0, d1, d2, d3, d4, d5, d6, d7, d8, d9, d10, d11, d12, d13⟩ := cell14 HB.out
      simp only [Rg.zero, Sl.zero] at d0 d1 d2 d3 d4 d5 d6 d7 d8 d9 d10 d11 d12 d13
      have f0 := HB.out.frozen 0
      have f1 := HB.out.frozen 1
      have f2 := HB.out.frozen 2
      have f3 := HB.out.frozen 3
      have f4 := HB.out.frozen 4
      have f5 := HB.out.frozen 5
      have f6 := HB.out.frozen 6
      have f7 := HB.out.frozen 7
      have f8 := HB.out.frozen 8
      have f9 := HB.out.frozen 9
      have f10 := HB.out.frozen 10
      have f11 := HB.out.frozen 11
      have f12 := HB.out.frozen 12
      have f13 := HB.out.frozen 13
      have hbw := hide (put14_at v2 X HB.out)
      have hkw := hide (put14_kept (S := []) v2 X HK.out (.inr HG.out))
      have hkg := hide (put14_kept (S := [g]) v2 X (Kept.refl [g] wr) (g := g) (.inl (by simp)))
      have HPE := hide (put14_eq wr g v2 X)
      go_wp2
      rw [HPE.out]
      generalize put14 wr g v2 X = W at hbw hkw hkg ⊢
      obtain ⟨t0, t1, t2, t3, t4, t5, t6, t7, t8, t9, t10, t11, t12, t13⟩ := cell14 hbw.out
      refine bodyPost_ret (v := .tuple #[v2.val X, .int .i64 p2, .int .i64 e2]) ?_ rfl ⟨X, by rw [HX.out], HQ.out.small, fun S hS => ?_, hkw.out⟩
      · simp [results, Try.results16, go_sem, t0, t1, t2, t3, t4, t5, t6, t7, t8, t9, t10, t11, t12, t13, Rg.val]
      · rw [HX.out]
        exact (((HQ.out.read S (by first | exact hS | (rw [hg]; exact hS))).less (S' := g :: S) (by simp; intro i hi; exact .inr (.inr hi))).kept hkg.out (by simp)).less (by simp; intro i hi; exact .inr hi)
end Go.Proofs.Ythacnlpdodlggaa.rg
