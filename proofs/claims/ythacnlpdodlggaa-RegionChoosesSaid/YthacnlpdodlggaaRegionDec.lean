/- Package region: Decode. -/
import Derived.Test.YthacnlpdodlggaaRegionEnc
import Derived.Test.YthacnlpdodlggaaRegionRead
import Derived.Test.YthacnlpdodlggaaBytesEq
namespace Go.Proofs.Ythacnlpdodlggaa.rg
set_option linter.unusedSimpArgs false
open Go.RowKit Go.Proofs.Ythacnlpdodlggaa.mem Go.Proofs.Ythacnlpdodlggaa.base Go.Proofs.Ythacnlpdodlggaa.row Go.Proofs.Ythacnlpdodlggaa.rowBack Go.Proofs.Ythacnlpdodlggaa.fill Go.Proofs.Ythacnlpdodlggaa.crc Go.Proofs.Ythacnlpdodlggaa.crcMath

set_option maxRecDepth 100000 in
set_option maxHeartbeats 2000000 in
theorem decode_far (G : Nat) (D : Dv) (A : Option Addr) (n c : Nat) (bs : List UInt8) (w : World) (hG : GD w G D) (hv : Vals w [] A (bs.map B)) (hl : bs.length = n) (hA : A = none → c = 0) (hn : n ≤ 65536) :
    Calls Try.prog 14 #[.pointer (some ⟨G, 0, none⟩), .slice A n c] w fun e w' => ∃ X, e = .returned (.tuple #[(decode D bs).1.val X, .int .i64 (decode D bs).2]) ∧ X.small ∧ (∀ S : List Nat, (∀ i ∈ S, i < w.heap.size) → RgIn w' S X (decode D bs).1) ∧ Kept [] w w' := by
  have HA := hide hA
  have HL := hide hl
  obtain ⟨u, hu⟩ : ∃ u : Rg, readOf D bs = u := ⟨_, rfl⟩
  have HU := hide hu
  have hdv := hG.dv
  have HDV := hide hdv
  have hk0 := (Kept.refl [] w).alloc (.cells (Rg.zero.cells Sl.zero) 28)
  have hb0 := Blk.new w 28 (Rg.zero.cells Sl.zero)
  have hlt := hb0.lt
  obtain ⟨g, hg⟩ : ∃ g, w.heap.size = g := ⟨_, rfl⟩
  have HGW := hide (Nat.le_of_eq hg)
  rw [hg] at hb0 hlt
  have HG0 := hide (hG.kept hk0)
  have HV0 := hide (hv.kept hk0 (by simp))
  have HB0 := hide hb0
  have HK0 := hide hk0
  clear hk0 hb0 hv hl hA hG hu hdv
  go_enter Try.func14, Try.ntmps14
  rw [hg]
  go_wp2_with fail
  refine (read_far G D A n c bs _ HG0.out HV0.out HL.out HA.out hn).mono ?_
  rintro e w1 ⟨X, rfl, hXs, hin, hk⟩
  rw [HU.out] at hin ⊢
  obtain ⟨w2, hw2⟩ : ∃ w2, w1.alloc (.cells (u.cells X) 28) = w2 := ⟨_, rfl⟩
  have hk2 : Kept [] w1 w2 := by rw [← hw2]; exact (Kept.refl [] w1).alloc _
  have hb2 : Blk w2 w1.heap.size 28 (u.cells X) := by rw [← hw2]; exact Blk.new w1 _ _
  obtain ⟨q, hq⟩ : ∃ q, w1.heap.size = q := ⟨_, rfl⟩
  rw [hq] at hb2
  have hs1 := hk.size
  have hgq : g < q := by omega
  have HIN := hide (fun (S : List Nat) (hS : ∀ i ∈ S, i < w.heap.size) => (hin (g :: S) (by
    intro i hi
    simp only [List.mem_cons] at hi
    rcases hi with rfl | hi
    · exact hlt
    · have := hS i hi
      have := HK0.out.size
      omega)).kept hk2 (by simp))
  have HI0 := hide ((hin [] (by simp)).kept hk2 (by simp))
  have HG2 := hide ((HG0.out.kept hk).kept hk2)
  have HV2 := hide ((HV0.out.kept hk (by simp)).kept hk2 (by simp))
  have HB2 := hide (hk2.blk (hk.blk HB0.out (by simp)) (by simp))
  have HK2 := hide ((HK0.out.trans hk (by simp)).trans hk2 (by simp))
  have HQ2 := hide hb2
  unfold Rg.cells at hw2
  obtain ⟨c0, c1, c2, c3, c4, c5, c6, c7, c8, c9, c10, c11, c12, c13⟩ := cell14 HQ2.out
  clear hk hk2 hb2 hin hs1 HG0 HV0 HB0 HK0
  unfold Rg.val
  go_wp2_with fail
  refine (encode_any G D u X _ HG2.out HI0.out hXs).mono ?_
  rintro e w3 ⟨A3, n3, cc, rfl, hn3, hnb, hk⟩
  have HV3 := hide (HV2.out.kept hk (by simp))
  have HB3 := hide (hk.blk HB2.out (by simp))
  have HQ3 := hide (hk.blk HQ2.out (by simp))
  have HK3 := hide (HK2.out.trans hk (by simp))
  have HIN3 := hide (fun (S : List Nat) (hS : ∀ i ∈ S, i < w.heap.size) => (HIN.out S hS).kept hk (by simp))
  have HN3 := hide (hnb.vals (S := []) (by simp))
  clear hk hnb c0 c1 c2 c3 c4 c5 c6 c7 c8 c9 c10 c11 c12 c13 HG2 HV2 HB2 HQ2 HK2 HIN HI0 hw2
  have hd : decode D bs = if u.may D = true ∧ u.bytes D = bs then (u, 0) else (Rg.zero, 2) := by unfold decode; rw [HU.out]
  obtain ⟨d0, d1, d2, d3, d4, d5, d6, d7, d8, d9, d10, d11, d12, d13⟩ := cell14 HB3.out
  simp only [Rg.zero, Sl.zero] at d0 d1 d2 d3 d4 d5 d6 d7 d8 d9 d10 d11 d12 d13
  have f0 := HB3.out.frozen 0
  have f1 := HB3.out.frozen 1
  have f2 := HB3.out.frozen 2
  have f3 := HB3.out.frozen 3
  have f4 := HB3.out.frozen 4
  have f5 := HB3.out.frozen 5
  have f6 := HB3.out.frozen 6
  have f7 := HB3.out.frozen 7
  have f8 := HB3.out.frozen 8
  have f9 := HB3.out.frozen 9
  have f10 := HB3.out.frozen 10
  have f11 := HB3.out.frozen 11
  have f12 := HB3.out.frozen 12
  have f13 := HB3.out.frozen 13
  have hze := put14_eq w3 g Rg.zero Sl.zero
  simp only [Rg.zero, Sl.zero] at hze
  have HZE : Hid (_ = put14 w3 g Rg.zero Sl.zero) := hide hze
  have hbz := hide (put14_at Rg.zero Sl.zero HB3.out)
  have hkz := hide (put14_kept (S := []) Rg.zero Sl.zero HK3.out (g := g) (.inr HGW.out))
  clear hze
  by_cases hm : u.may D = true
  · have e1 : encode D u = (u.bytes D, 0) := if_pos hm
    rw [e1] at HN3 hn3 ⊢
    have HN := hide hn3
    by_cases hqe : u.bytes D = bs
    · rw [if_pos ⟨hm, hqe⟩] at hd
      have HD := hide hd
      clear hd e1 hn3
      obtain ⟨c0, c1, c2, c3, c4, c5, c6, c7, c8, c9, c10, c11, c12, c13⟩ := cell14 HQ3.out
      have HPE := hide (put14_eq w3 g u X)
      have hbw := hide (put14_at u X HB3.out)
      have hkw := hide (put14_kept (S := []) u X HK3.out (g := g) (.inr HGW.out))
      have hkg := hide (put14_kept (S := [g]) u X (Kept.refl [g] w3) (g := g) (.inl (by simp)))
      go_wp2_with fail
      refine (bytesEqual_any A3 A n3 n cc c (u.bytes D) bs _ HN.out.symm HL.out HN3.out HV3.out).mono ?_
      rintro e w4 ⟨rfl, rfl⟩
      rw [decide_eq_true hqe]
      go_wp2
      rw [HPE.out]
      generalize put14 w3 g u X = W at hbw hkw hkg ⊢
      obtain ⟨t0, t1, t2, t3, t4, t5, t6, t7, t8, t9, t10, t11, t12, t13⟩ := cell14 hbw.out
      refine bodyPost_ret (v := .tuple #[u.val X, .int .i64 0]) ?_ rfl ⟨X, by rw [HD.out], hXs, fun S hS => ?_, hkw.out⟩
      · simp [results, Try.results14, go_sem, t0, t1, t2, t3, t4, t5, t6, t7, t8, t9, t10, t11, t12, t13, Rg.val]
      · rw [HD.out]
        exact ((HIN3.out S (by rw [hg]; exact hS)).kept hkg.out (by simp)).less (fun i hi => by simp [hi])
    · rw [if_neg (fun h => hqe h.2)] at hd
      have HD := hide hd
      clear hd e1 hn3
      go_wp2_with fail
      refine (bytesEqual_any A3 A n3 n cc c (u.bytes D) bs _ HN.out.symm HL.out HN3.out HV3.out).mono ?_
      rintro e w4 ⟨rfl, rfl⟩
      rw [decide_eq_false hqe]
      go_wp2
      rw [HZE.out]
      generalize put14 w3 g Rg.zero Sl.zero = W at hbz hkz ⊢
      obtain ⟨t0, t1, t2, t3, t4, t5, t6, t7, t8, t9, t10, t11, t12, t13⟩ := cell14 hbz.out
      simp only [Rg.zero, Sl.zero] at t0 t1 t2 t3 t4 t5 t6 t7 t8 t9 t10 t11 t12 t13
      refine bodyPost_ret (v := .tuple #[Rg.zero.val Sl.zero, .int .i64 2]) ?_ rfl ⟨Sl.zero, by rw [HD.out], ⟨by decide, by decide, by decide⟩, fun S hS => ?_, hkz.out⟩
      · simp [results, Try.results14, go_sem, t0, t1, t2, t3, t4, t5, t6, t7, t8, t9, t10, t11, t12, t13, Rg.val, Rg.zero, Sl.zero]
      · rw [HD.out]
        exact RgIn.zero _ _
  · have e1 : encode D u = ([], 1) := if_neg hm
    rw [e1] at HN3 hn3 ⊢
    rw [if_neg (fun h => hm h.1)] at hd
    have HD := hide hd
    clear hd e1 hn3
    go_wp2
    rw [HZE.out]
    generalize put14 w3 g Rg.zero Sl.zero = W at hbz hkz ⊢
    obtain ⟨t0, t1, t2, t3, t4, t5, t6, t7, t8, t9, t10, t11, t12, t13⟩ := cell14 hbz.out
    simp only [Rg.zero, Sl.zero] at t0 t1 t2 t3 t4 t5 t6 t7 t8 t9 t10 t11 t12 t13
    refine bodyPost_ret (v := .tuple #[Rg.zero.val Sl.zero, .int .i64 2]) ?_ rfl ⟨Sl.zero, by rw [HD.out], ⟨by decide, by decide, by decide⟩, fun S hS => ?_, hkz.out⟩
    · simp [results, Try.results14, go_sem, t0, t1, t2, t3, t4, t5, t6, t7, t8, t9, t10, t11, t12, t13, Rg.val, Rg.zero, Sl.zero]
    · rw [HD.out]
      exact RgIn.zero _ _
end Go.Proofs.Ythacnlpdodlggaa.rg
