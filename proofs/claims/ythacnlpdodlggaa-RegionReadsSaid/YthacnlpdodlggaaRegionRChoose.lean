/- The reference's RegionChoose. (Written by tools/genrgrchoose.py.) -/
import Derived.Test.YthacnlpdodlggaaRegionROf
import Derived.Test.YthacnlpdodlggaaRegionChoose
namespace Go.Proofs.Ythacnlpdodlggaa.rg
set_option linter.unusedSimpArgs false
open Go.RowKit Go.Proofs.Ythacnlpdodlggaa.mem Go.Proofs.Ythacnlpdodlggaa.base Go.Proofs.Ythacnlpdodlggaa.row

theorem choose_way (D : Dv) (a b : List UInt8) : (¬ (decode D a).2 = 0 ∧ ¬ (decode D b).2 = 0 ∧ choose D a b = (Rg.zero, 0, 2)) ∨ ((decode D b).2 = 0 ∧ (¬ (decode D a).2 = 0 ∨ (decode D a).2 = 0 ∧ (decode D b).1.g > (decode D a).1.g) ∧ choose D a b = ((decode D b).1, 1, 0)) ∨
    ((decode D a).2 = 0 ∧ (¬ (decode D b).2 = 0 ∨ (decode D b).2 = 0 ∧ ¬ (decode D b).1.g > (decode D a).1.g) ∧ choose D a b = ((decode D a).1, 0, 0)) := by
  have hz : Rg.zero.g = 0 := rfl
  unfold choose
  rcases decode_or D a with ⟨S, h1, _, h3⟩ | h3 <;> rcases decode_or D b with ⟨U, k1, _, k3⟩ | k3 <;> rw [h3, k3] <;> dsimp only
  · have := h1.g
    have := k1.g
    by_cases h : U.g > S.g
    · exact .inr (.inl ⟨rfl, .inr ⟨rfl, h⟩, by rw [if_pos h]⟩)
    · exact .inr (.inr ⟨rfl, .inr ⟨rfl, h⟩, by rw [if_neg h, if_pos (by omega)]⟩)
  · have := h1.g
    exact .inr (.inr ⟨rfl, .inl (by decide), by rw [if_neg (by rw [hz]; omega), if_pos (by omega)]⟩)
  · have := k1.g
    exact .inr (.inl ⟨rfl, .inl (by decide), by rw [if_pos (by rw [hz]; omega)]⟩)
  · exact .inl ⟨by decide, by decide, by rw [if_neg (by decide), if_neg (by decide)]⟩

set_option maxRecDepth 100000 in
set_option maxHeartbeats 4000000 in
theorem rchoose_any (D : Dv) (hD : D.ok) (A1 A2 : Option Addr) (n1 n2 m1 m2 : Nat) (xs ys : List UInt8) (w : World) (hv1 : Vals w [] A1 (xs.map B)) (hl1 : xs.length = n1) (hc1 : n1 ≤ m1) (hn1 : n1 ≤ 65536)
    (hv2 : Vals w [] A2 (ys.map B)) (hl2 : ys.length = n2) (hc2 : n2 ≤ m2) (hn2 : n2 ≤ 65536) :
    Calls Try.prog 17 #[.agg #[.int .i64 D.b, .int .i64 D.n, .int .i64 D.z], .slice A1 n1 m1, .slice A2 n2 m2] w fun e w' => ∃ X, e = .returned (.tuple #[(choose D xs ys).1.val X, .int .i64 (choose D xs ys).2.1, .int .i64 (choose D xs ys).2.2]) ∧ X.small ∧ (∀ S : List Nat, (∀ i ∈ S, i < w.heap.size) → RgIn w' S X (choose D xs ys).1) ∧ Kept [] w w' := by
  have HD := hide hD
  have HL1 := hide hl1
  have HL2 := hide hl2
  have HCW := hide (choose_way D xs ys)
  obtain ⟨u, eu, hu⟩ : ∃ u eu, decode D xs = (u, eu) := ⟨_, _, rfl⟩
  obtain ⟨v, ev, hv⟩ : ∃ v ev, decode D ys = (v, ev) := ⟨_, _, rfl⟩
  rw [hu, hv] at HCW
  dsimp only at HCW
  have HU := hide hu
  have HVV := hide hv
  clear hu hv
  obtain ⟨q, hq⟩ : ∃ q, w.heap.size = q := ⟨_, rfl⟩
  obtain ⟨g, hg⟩ : ∃ g, q + 1 = g := ⟨_, rfl⟩
  obtain ⟨w1, hw1⟩ : ∃ w1, (w.alloc (.cells #[.int .i64 D.b, .int .i64 D.n, .int .i64 D.z] 31)).alloc (.cells (Rg.zero.cells Sl.zero) 28) = w1 := ⟨_, rfl⟩
  have hbq : Blk w1 q 31 #[.int .i64 D.b, .int .i64 D.n, .int .i64 D.z] := by rw [← hw1, ← hq]; exact (Blk.new w _ _).alloc _
  have hbg : Blk w1 g 28 (Rg.zero.cells Sl.zero) := by
    have := Blk.new (w.alloc (.cells #[.int .i64 D.b, .int .i64 D.n, .int .i64 D.z] 31)) 28 (Rg.zero.cells Sl.zero)
    rw [hw1] at this
    simpa [hq, hg] using this
  have hk1 : Kept [] w w1 := by rw [← hw1]; exact ((Kept.refl [] w).alloc _).alloc _
  have HWG : Hid (w.heap.size ≤ g) := hide (by omega)
  have HA1 := hide (hv1.kept hk1 (by simp))
  have HA2 := hide (hv2.kept hk1 (by simp))
  have HQ1 := hide hbq
  have HG1 := hide hbg
  have HK1 := hide hk1
  have hgl := hbg.lt
  obtain ⟨d0, d1, d2⟩ := cfg_cells hbq
  have HGW : Hid (∀ (S : List Nat), (∀ i ∈ S, i < w.heap.size) → ∀ i ∈ g :: S, i < w1.heap.size) := hide (fun S hS i hi => by
    simp only [List.mem_cons] at hi
    rcases hi with rfl | hi
    · exact hgl
    · have := hS i hi
      have := HK1.out.size
      omega)
  simp only [Rg.cells, Rg.zero, Sl.zero] at hw1
  have HW := hide hw1
  clear hbq hbg hk1 hv1 hv2 hl1 hl2 hw1
  go_enter Try.func17, Try.ntmps17
  have hwz : (w.alloc (.cells #[.int .i64 D.b, .int .i64 D.n, .int .i64 D.z] 31)).alloc (.cells #[.int .i64 0, .int .i64 0, .int .i64 0, .int .i64 0, .int .i64 0, .int .i64 0, .int .i64 0, .int .i64 0, .int .i64 0, .int .i64 0, .int .i64 0, .slice none 0 0, .slice none 0 0, .slice none 0 0] 28) = w1 := HW.out
  go_wp2_with fail
  try rw [hwz]
  clear hwz HW
  refine (rof_any D HD.out A1 n1 m1 xs _ HA1.out HL1.out hc1 hn1).mono ?_
  rintro e w2 ⟨X, rfl, hXs, hin, hk⟩
  rw [HU.out] at hin ⊢
  dsimp only at hin ⊢
  obtain ⟨w3, hw3⟩ : ∃ w3, w2.alloc (.cells (u.cells X) 28) = w3 := ⟨_, rfl⟩
  have hk3 : Kept [] w2 w3 := by rw [← hw3]; exact (Kept.refl [] w2).alloc _
  have hs3 : Blk w3 w2.heap.size 28 (u.cells X) := by rw [← hw3]; exact Blk.new w2 _ _
  obtain ⟨s, hs⟩ : ∃ s, w2.heap.size = s := ⟨_, rfl⟩
  rw [hs] at hs3
  have hsz := hk.size
  have hgs : g < s := by omega
  have HIX := hide (fun (S : List Nat) (hS : ∀ i ∈ S, i < w.heap.size) => (hin (g :: S) (HGW.out S hS)).kept hk3 (by simp))
  have HS3 := hide hs3
  have HQ3 := hide (hk3.blk (hk.blk HQ1.out (by simp)) (by simp))
  have HG3 := hide (hk3.blk (hk.blk HG1.out (by simp)) (by simp))
  have HA3 := hide ((HA2.out.kept hk (by simp)).kept hk3 (by simp))
  have HK3 := hide ((HK1.out.trans hk (by simp)).trans hk3 (by simp))
  have hw13 : w1.heap.size ≤ w3.heap.size := by have := hk3.size; omega
  unfold Rg.cells at hw3
  clear hk hk3 hs3 hin hsz d0 d1 d2 HQ1 HG1 HA1 HA2 HK1 hgl
  obtain ⟨d0, d1, d2⟩ := cfg_cells HQ3.out
  unfold Rg.val
  go_wp2_with fail
  refine (rof_any D HD.out A2 n2 m2 ys _ HA3.out HL2.out hc2 hn2).mono ?_
  rintro e w4 ⟨Y, rfl, hYs, hin, hk⟩
  rw [HVV.out] at hin ⊢
  dsimp only at hin ⊢
  obtain ⟨w5, hw5⟩ : ∃ w5, w4.alloc (.cells (v.cells Y) 28) = w5 := ⟨_, rfl⟩
  have hk5 : Kept [] w4 w5 := by rw [← hw5]; exact (Kept.refl [] w4).alloc _
  have hr5 : Blk w5 w4.heap.size 28 (v.cells Y) := by rw [← hw5]; exact Blk.new w4 _ _
  obtain ⟨r, hr⟩ : ∃ r, w4.heap.size = r := ⟨_, rfl⟩
  rw [hr] at hr5
  have HIY := hide (fun (S : List Nat) (hS : ∀ i ∈ S, i < w.heap.size) => (hin (g :: S) (fun i hi => by have := HGW.out S hS i hi; omega)).kept hk5 (by simp))
  have HIX5 := hide (fun (S : List Nat) (hS : ∀ i ∈ S, i < w.heap.size) => ((HIX.out S hS).kept hk (by simp)).kept hk5 (by simp))
  have HR5 := hide hr5
  have HS5 := hide (hk5.blk (hk.blk HS3.out (by simp)) (by simp))
  have HG5 := hide (hk5.blk (hk.blk HG3.out (by simp)) (by simp))
  have HK5 := hide ((HK3.out.trans hk (by simp)).trans hk5 (by simp))
  unfold Rg.cells at hw5
  clear hk hk5 hr5 hin d0 d1 d2 HQ3 HG3 HA3 HK3 HS3 HIX hw3
  obtain ⟨s0, s1, s2, s3, s4, s5, s6, s7, s8, s9, s10, s11, s12, s13⟩ := cell14 HS5.out
  obtain ⟨r0, r1, r2, r3, r4, r5, r6, r7, r8, r9, r10, r11, r12, r13⟩ := cell14 HR5.out
  obtain ⟨d0, d1, d2, d3, d4, d5, d6, d7, d8, d9, d10, d11, d12, d13⟩ := cell14 HG5.out
  simp only [Rg.zero, Sl.zero] at d0 d1 d2 d3 d4 d5 d6 d7 d8 d9 d10 d11 d12 d13
  have f0 := HG5.out.frozen 0
  have f1 := HG5.out.frozen 1
  have f2 := HG5.out.frozen 2
  have f3 := HG5.out.frozen 3
  have f4 := HG5.out.frozen 4
  have f5 := HG5.out.frozen 5
  have f6 := HG5.out.frozen 6
  have f7 := HG5.out.frozen 7
  have f8 := HG5.out.frozen 8
  have f9 := HG5.out.frozen 9
  have f10 := HG5.out.frozen 10
  have f11 := HG5.out.frozen 11
  have f12 := HG5.out.frozen 12
  have f13 := HG5.out.frozen 13
  unfold Rg.val
  rcases HCW.out with ⟨ha, hb, hc⟩ | ⟨hb, hab, hc⟩ | ⟨ha, hab, hc⟩
  · have HC := hide hc
    have qa : (eu != 0) = true := by simpa using ha
    have qb : (ev != 0) = true := by simpa using hb
    have hze := put14_eq w5 g Rg.zero Sl.zero
    simp only [Rg.zero, Sl.zero] at hze
    have HZE : Hid (_ = put14 w5 g Rg.zero Sl.zero) := hide hze
    have hbz := hide (put14_at Rg.zero Sl.zero HG5.out)
    have hkz := hide (put14_kept (S := []) Rg.zero Sl.zero HK5.out (g := g) (.inr HWG.out))
    clear hze hc ha hb
    go_wp2
    rw [HZE.out]
    generalize put14 w5 g Rg.zero Sl.zero = W at hbz hkz ⊢
    obtain ⟨t0, t1, t2, t3, t4, t5, t6, t7, t8, t9, t10, t11, t12, t13⟩ := cell14 hbz.out
    simp only [Rg.zero, Sl.zero] at t0 t1 t2 t3 t4 t5 t6 t7 t8 t9 t10 t11 t12 t13
    refine bodyPost_ret (v := .tuple #[Rg.zero.val Sl.zero, .int .i64 0, .int .i64 2]) ?_ rfl ⟨Sl.zero, by rw [HC.out], ⟨by decide, by decide, by decide⟩, fun S hS => ?_, hkz.out⟩
    · simp [results, Try.results17, go_sem, t0, t1, t2, t3, t4, t5, t6, t7, t8, t9, t10, t11, t12, t13, Rg.val, Rg.zero, Sl.zero]
    · rw [HC.out]
      exact RgIn.zero _ _
  · have HC := hide hc
    have qb : (ev != 0) = false := by simp [hb]
    have qb2 : (ev == 0) = true := by simp [hb]
    clear hc hb
    rcases hab with ha | ⟨ha, hgt⟩
    · have qa : (eu != 0) = true := by simpa using ha
      clear ha
      have HPE := hide (put14_eq w5 g v Y)
      have hbw := hide (put14_at v Y HG5.out)
      have hkw := hide (put14_kept (S := []) v Y HK5.out (g := g) (.inr HWG.out))
      have hkg := hide (put14_kept (S := [g]) v Y (Kept.refl [g] w5) (g := g) (.inl (by simp)))
      go_wp2
      rw [HPE.out]
      generalize put14 w5 g v Y = W at hbw hkw hkg ⊢
      obtain ⟨t0, t1, t2, t3, t4, t5, t6, t7, t8, t9, t10, t11, t12, t13⟩ := cell14 hbw.out
      refine bodyPost_ret (v := .tuple #[v.val Y, .int .i64 1, .int .i64 0]) ?_ rfl ⟨Y, by rw [HC.out], hYs, fun S hS => ?_, hkw.out⟩
      · simp [results, Try.results17, go_sem, t0, t1, t2, t3, t4, t5, t6, t7, t8, t9, t10, t11, t12, t13, Rg.val]
      · rw [HC.out]
        exact ((HIY.out S (by first | exact hS | (rw [hq]; exact hS))).kept hkg.out (by simp)).less (fun i hi => by simp [hi])
    · have qa : (eu != 0) = false := by simp [ha]
      have hgt2 : u.g < v.g := hgt
      have qg : decide (u.g < v.g) = true := decide_eq_true hgt
      clear ha hgt
      have HPE := hide (put14_eq w5 g v Y)
      have hbw := hide (put14_at v Y HG5.out)
      have hkw := hide (put14_kept (S := []) v Y HK5.out (g := g) (.inr HWG.out))
      have hkg := hide (put14_kept (S := [g]) v Y (Kept.refl [g] w5) (g := g) (.inl (by simp)))
      go_wp2
      rw [HPE.out]
      generalize put14 w5 g v Y = W at hbw hkw hkg ⊢
      obtain ⟨t0, t1, t2, t3, t4, t5, t6, t7, t8, t9, t10, t11, t12, t13⟩ := cell14 hbw.out
      refine bodyPost_ret (v := .tuple #[v.val Y, .int .i64 1, .int .i64 0]) ?_ rfl ⟨Y, by rw [HC.out], hYs, fun S hS => ?_, hkw.out⟩
      · simp [results, Try.results17, go_sem, t0, t1, t2, t3, t4, t5, t6, t7, t8, t9, t10, t11, t12, t13, Rg.val]
      · rw [HC.out]
        exact ((HIY.out S (by first | exact hS | (rw [hq]; exact hS))).kept hkg.out (by simp)).less (fun i hi => by simp [hi])
  · have HC := hide hc
    have qa : (eu != 0) = false := by simp [ha]
    clear hc ha
    rcases hab with hb | ⟨hb, hgt⟩
    · have qb : (ev != 0) = true := by simpa using hb
      have qb2 : (ev == 0) = false := by simpa using hb
      clear hb
      have HPE := hide (put14_eq w5 g u X)
      have hbw := hide (put14_at u X HG5.out)
      have hkw := hide (put14_kept (S := []) u X HK5.out (g := g) (.inr HWG.out))
      have hkg := hide (put14_kept (S := [g]) u X (Kept.refl [g] w5) (g := g) (.inl (by simp)))
      go_wp2
      rw [HPE.out]
      generalize put14 w5 g u X = W at hbw hkw hkg ⊢
      obtain ⟨t0, t1, t2, t3, t4, t5, t6, t7, t8, t9, t10, t11, t12, t13⟩ := cell14 hbw.out
      refine bodyPost_ret (v := .tuple #[u.val X, .int .i64 0, .int .i64 0]) ?_ rfl ⟨X, by rw [HC.out], hXs, fun S hS => ?_, hkw.out⟩
      · simp [results, Try.results17, go_sem, t0, t1, t2, t3, t4, t5, t6, t7, t8, t9, t10, t11, t12, t13, Rg.val]
      · rw [HC.out]
        exact ((HIX5.out S (by first | exact hS | (rw [hq]; exact hS))).kept hkg.out (by simp)).less (fun i hi => by simp [hi])
    · have qb : (ev != 0) = false := by simp [hb]
      have qb2 : (ev == 0) = true := by simp [hb]
      have hgt2 : ¬ u.g < v.g := by omega
      have qg : decide (u.g < v.g) = false := decide_eq_false hgt2
      clear hb hgt
      have HPE := hide (put14_eq w5 g u X)
      have hbw := hide (put14_at u X HG5.out)
      have hkw := hide (put14_kept (S := []) u X HK5.out (g := g) (.inr HWG.out))
      have hkg := hide (put14_kept (S := [g]) u X (Kept.refl [g] w5) (g := g) (.inl (by simp)))
      go_wp2
      rw [HPE.out]
      generalize put14 w5 g u X = W at hbw hkw hkg ⊢
      obtain ⟨t0, t1, t2, t3, t4, t5, t6, t7, t8, t9, t10, t11, t12, t13⟩ := cell14 hbw.out
      refine bodyPost_ret (v := .tuple #[u.val X, .int .i64 0, .int .i64 0]) ?_ rfl ⟨X, by rw [HC.out], hXs, fun S hS => ?_, hkw.out⟩
      · simp [results, Try.results17, go_sem, t0, t1, t2, t3, t4, t5, t6, t7, t8, t9, t10, t11, t12, t13, Rg.val]
      · rw [HC.out]
        exact ((HIX5.out S (by first | exact hS | (rw [hq]; exact hS))).kept hkg.out (by simp)).less (fun i hi => by simp [hi])
end Go.Proofs.Ythacnlpdodlggaa.rg
