/- Package head: get, read, Decode. -/
import Derived.Test.YtlhomheolcmocaaHeadEnc
import Derived.Test.YtlhomheolcmocaaBytesEq
namespace Go.Proofs.Ytlhomheolcmocaa.hd
open Go.RowKit Go.Proofs.Ytlhomheolcmocaa.mem Go.Proofs.Ytlhomheolcmocaa.base Go.Proofs.Ytlhomheolcmocaa.row Go.Proofs.Ytlhomheolcmocaa.rowBack Go.Proofs.Ytlhomheolcmocaa.fill Go.Proofs.Ytlhomheolcmocaa.crc Go.Proofs.Ytlhomheolcmocaa.crcMath
open Go.Proofs.Ytlhomheolcmocaa.super (r0 take2)

theorem hget_any (p b cap : Nat) (A : Option Addr) (R R' : Row) (x y : Int) (w : World) (h : RowAt w p b cap A R) (hR : (R.get x).2.2 = R') (hy : (R.get x).1 = y) :
    Calls Try.prog 50 #[.pointer (some ⟨p, 0, none⟩), .int .i64 x] w fun e w' => e = .returned (.int .i64 y) ∧ RowAt w' p b cap A R' ∧ Kept [p] w w' := by
  have H := hide h
  have HY := hide hy
  have HRR := hide hR
  clear h hy hR
  go_enter Try.func50, Try.ntmps50
  go_wp2_with fail
  refine (row.get_at p b cap A R x _ H.out).mono ?_
  rintro e w1 ⟨rfl, hr, hk⟩
  rw [HRR.out] at hr
  rw [HY.out]
  have HR := hide hr
  have HK := hide hk
  clear hr hk
  go_wp2
  go_ret
  exact ⟨rfl, HR.out, HK.out⟩

theorem readOf_g (bs : List UInt8) : ((r0 bs).get 1).1 = (readOf bs).g := by simp only [readOf]
theorem readOf_m (bs : List UInt8) : ((r1 bs).get 4).1 = (readOf bs).m := by simp only [readOf]
theorem readOf_l (bs : List UInt8) : ((r2 bs).get 4).1 = (readOf bs).l := by simp only [readOf]
theorem readOf_v (bs : List UInt8) : ((r3 bs).get 4).1 = (readOf bs).v := by simp only [readOf]
theorem r1_eq (bs : List UInt8) : ((r0 bs).get 1).2.2 = r1 bs := by simp only [r1]
theorem r2_eq (bs : List UInt8) : ((r1 bs).get 4).2.2 = r2 bs := by simp only [r2]
theorem r3_eq (bs : List UInt8) : ((r2 bs).get 4).2.2 = r3 bs := by simp only [r3]

set_option maxRecDepth 100000 in
set_option maxHeartbeats 1000000 in
theorem read_any (A : Option Addr) (n c : Nat) (bs : List UInt8) (w : World) (hv : Vals w [] A (bs.map B)) (hl : bs.length = n) (hA : A = none → c = 0) (hn : n ≤ 65536) :
    Calls Try.prog 29 #[.slice A n c] w fun e w' => e = .returned (readOf bs).val ∧ Kept [] w w' := by
  have HV := hide hv
  have HA := hide hA
  subst hl
  clear hv hA
  have HB0 := hide (Blk.new w 23 Hd.zero.cells)
  have HK0 := hide ((Kept.refl [] w).alloc (.cells Hd.zero.cells 23))
  go_enter Try.func29, Try.ntmps29
  go_wp2_with fail
  refine (from_at A c bs _ (HV.out.kept HK0.out (by simp)) HA.out hn).mono ?_
  rintro e w1 ⟨p, b, cap, A', rfl, hp, hb, hb1, hr, hk⟩
  have HR1 := hide hr
  have HK1 := hide (HK0.out.trans hk (by simp))
  have HB1 := hide (hk.blk HB0.out (by simp))
  obtain ⟨g, hg⟩ : ∃ g, w.heap.size = g := ⟨_, rfl⟩
  have hpg : g < p := by simp at hp; omega
  have hbg : g < b := by simp at hb; omega
  have HG : Hid (w.heap.size ≤ g) := hide (Nat.le_of_eq hg)
  clear hr hk hp hb HB0 HK0
  rw [hg] at HB1 ⊢
  go_wp2_with fail
  refine (take_at p b cap A' _ 2 _ HR1.out).mono ?_
  rintro e w2 ⟨A2, c2, rfl, _, hr, hk⟩
  have HR2 : Hid (RowAt w2 p b cap A' (r0 bs)) := hide hr
  have HK2 := hide (HK1.out.trans hk (by simp; omega))
  have HB2 := hide (hk.blk HB1.out (by simp; omega))
  clear hr hk HR1 HK1 HB1
  go_wp2_with fail
  refine (hget_any p b cap A' _ (r1 bs) 1 (readOf bs).g _ HR2.out (r1_eq bs) (readOf_g bs)).mono ?_
  rintro e w3 ⟨rfl, hr, hk⟩
  have HR3 := hide hr
  have HK3 := hide (HK2.out.trans hk (by simp; omega))
  have HB3 := hide (hk.blk HB2.out (by simp; omega))
  clear hr hk HR2 HK2 HB2
  go_wp2_with fail
  refine (hget_any p b cap A' _ (r2 bs) 4 (readOf bs).m _ HR3.out (r2_eq bs) (readOf_m bs)).mono ?_
  rintro e w4 ⟨rfl, hr, hk⟩
  have HR4 := hide hr
  have HK4 := hide (HK3.out.trans hk (by simp; omega))
  have HB4 := hide (hk.blk HB3.out (by simp; omega))
  clear hr hk HR3 HK3 HB3
  go_wp2_with fail
  refine (hget_any p b cap A' _ (r3 bs) 4 (readOf bs).l _ HR4.out (r3_eq bs) (readOf_l bs)).mono ?_
  rintro e w5 ⟨rfl, hr, hk⟩
  have HR5 := hide hr
  have HK5 := hide (HK4.out.trans hk (by simp; omega))
  have HB5 := hide (hk.blk HB4.out (by simp; omega))
  clear hr hk HR4 HK4 HB4
  go_wp2_with fail
  refine (hget_any p b cap A' _ (_) 4 (readOf bs).v _ HR5.out (rfl) (readOf_v bs)).mono ?_
  rintro e w6 ⟨rfl, hr, hk⟩
  have HR6 := hide hr
  have HK6 := hide (HK5.out.trans hk (by simp; omega))
  have HB6 := hide (hk.blk HB5.out (by simp; omega))
  clear hr hk HR5 HK5 HB5
  obtain ⟨u, hu⟩ : ∃ u : Hd, readOf bs = u := ⟨_, rfl⟩
  rw [hu]
  have HU := hide hu
  clear hu
  have f0 := HB6.out.frozen 0
  have f1 := HB6.out.frozen 1
  have f2 := HB6.out.frozen 2
  have f3 := HB6.out.frozen 3
  obtain ⟨d0, d1, d2, d3⟩ := Hd.cell_at HB6.out
  have hbw := hide (Hd.put_at u.g u.m u.l u.v HB6.out)
  have hkw := hide (Hd.put_kept (S := []) u.g u.m u.l u.v HK6.out (.inr HG.out))
  go_wp2
  rw [put4_eq]
  generalize put4 w6 g u.g u.m u.l u.v = W at hbw hkw ⊢
  obtain ⟨t0, t1, t2, t3⟩ := Hd.cell_at hbw.out
  refine bodyPost_ret (v := u.val) (by simp [results, Try.results29, go_sem, t0, t1, t2, t3, Hd.val]) rfl ⟨by rw [HU.out], hkw.out⟩

set_option maxRecDepth 100000 in
set_option maxHeartbeats 1000000 in
theorem decode_any (A : Option Addr) (n c : Nat) (bs : List UInt8) (w : World) (hv : Vals w [] A (bs.map B)) (hl : bs.length = n) (hA : A = none → c = 0) (hn : n ≤ 65536) :
    Calls Try.prog 9 #[.slice A n c] w fun e w' => e = .returned (.tuple #[(decode bs).1.val, .int .i64 (decode bs).2]) ∧ Kept [] w w' := by
  have HV := hide hv
  have HA := hide hA
  have HL := hide hl
  clear hv hA hl
  obtain ⟨u, hu⟩ : ∃ u : Hd, readOf bs = u := ⟨_, rfl⟩
  have HU := hide hu
  clear hu
  have hb0 : Blk (w.alloc (.cells Hd.zero.cells 23)) w.heap.size 23 Hd.zero.cells := Blk.new w _ _
  have hk0 : Kept [] w (w.alloc (.cells Hd.zero.cells 23)) := (Kept.refl [] w).alloc _
  have hlt := hb0.lt
  obtain ⟨g, hg⟩ : ∃ g, w.heap.size = g := ⟨_, rfl⟩
  have HG : Hid (w.heap.size ≤ g) := hide (Nat.le_of_eq hg)
  go_enter Try.func9, Try.ntmps9
  rw [hg] at hb0 hlt
  have HB0 := hide hb0
  have HK0 := hide hk0
  clear hb0 hk0
  go_wp2_with fail
  refine (read_any A n c bs _ (HV.out.kept HK0.out (by simp)) HL.out HA.out hn).mono ?_
  rintro e w1 ⟨rfl, hk⟩
  rw [HU.out]
  unfold Hd.val
  have HK1 := hide (HK0.out.trans hk (by simp))
  have HB1 := hide (hk.blk HB0.out (by simp))
  clear hk HK0 HB0
  have hb2 : Blk (w1.alloc (.cells u.cells 23)) w1.heap.size 23 u.cells := Blk.new w1 _ _
  have HK2 := hide (HK1.out.alloc (.cells u.cells 23))
  have HB2 := hide (HB1.out.alloc (.cells u.cells 23))
  have hgl := HB1.out.lt
  obtain ⟨s, hs⟩ : ∃ s, w1.heap.size = s := ⟨_, rfl⟩
  rw [hs] at hb2 hgl
  have HS2 := hide hb2
  clear hb2 HK1 HB1
  go_wp2_with fail
  refine (encode_any u _).mono ?_
  rintro e w3 ⟨A3, n3, c3, rfl, hn3, hnb, hk⟩
  have HK3 := hide (HK2.out.trans hk (by simp))
  have HB3 := hide (hk.blk HB2.out (by simp))
  have HS3 := hide (hk.blk HS2.out (by simp))
  have HN3 := hide (hnb.vals (S := []) (by simp))
  have HV3 := hide (HV.out.kept HK3.out (by simp))
  clear hk HK2 HB2 HS2 hnb
  have hd : decode bs = if u.may = true ∧ u.bytes = bs then (u, 0) else (Hd.zero, 2) := by unfold decode; rw [HU.out]
  by_cases hm : u.may = true
  · have e1 : encode u = (u.bytes, 0) := if_pos hm
    rw [e1] at HN3 hn3 ⊢
    have HN := hide hn3
    by_cases hq : u.bytes = bs
    · rw [if_pos ⟨hm, hq⟩] at hd
      have HD := hide hd
      clear hd e1 hn3
      go_wp2_with fail
      refine (bytesEqual_any A3 A n3 n c3 c u.bytes bs _ HN.out.symm HL.out HN3.out HV3.out).mono ?_
      rintro e w4 ⟨rfl, rfl⟩
      rw [decide_eq_true hq]
      obtain ⟨c0, c1, c2, c3'⟩ := Hd.cell_at HS3.out
      have f0 := HB3.out.frozen 0
      have f1 := HB3.out.frozen 1
      have f2 := HB3.out.frozen 2
      have f3 := HB3.out.frozen 3
      obtain ⟨d0, d1, d2, d3⟩ := Hd.cell_at HB3.out
      have hbw := hide (Hd.put_at u.g u.m u.l u.v HB3.out)
      have hkw := hide (Hd.put_kept (S := []) u.g u.m u.l u.v HK3.out (.inr HG.out))
      go_wp2
      rw [put4_eq]
      generalize put4 w3 g u.g u.m u.l u.v = W at hbw hkw ⊢
      obtain ⟨t0, t1, t2, t3⟩ := Hd.cell_at hbw.out
      refine bodyPost_ret (v := .tuple #[u.val, .int .i64 0]) ?_ rfl ⟨by rw [HD.out], hkw.out⟩
      simp [results, Try.results9, go_sem, t0, t1, t2, t3, Hd.val]
    · rw [if_neg (fun h => hq h.2)] at hd
      have HD := hide hd
      clear hd e1 hn3
      go_wp2_with fail
      refine (bytesEqual_any A3 A n3 n c3 c u.bytes bs _ HN.out.symm HL.out HN3.out HV3.out).mono ?_
      rintro e w4 ⟨rfl, rfl⟩
      rw [decide_eq_false hq]
      have f0 := HB3.out.frozen 0
      have f1 := HB3.out.frozen 1
      have f2 := HB3.out.frozen 2
      have f3 := HB3.out.frozen 3
      obtain ⟨d0, d1, d2, d3⟩ := Hd.cell_at HB3.out
      have hbw := hide (Hd.put_at 0 0 0 0 HB3.out)
      have hkw := hide (Hd.put_kept (S := []) 0 0 0 0 HK3.out (.inr HG.out))
      go_wp2
      rw [put4_eq]
      generalize put4 w3 g 0 0 0 0 = W at hbw hkw ⊢
      obtain ⟨t0, t1, t2, t3⟩ := Hd.cell_at hbw.out
      refine bodyPost_ret (v := .tuple #[Hd.zero.val, .int .i64 2]) ?_ rfl ⟨by rw [HD.out], hkw.out⟩
      simp [results, Try.results9, go_sem, t0, t1, t2, t3, Hd.val, Hd.zero]
  · have e1 : encode u = ([], 1) := if_neg hm
    rw [e1] at HN3 hn3 ⊢
    rw [if_neg (fun h => hm h.1)] at hd
    have HD := hide hd
    clear hd e1 hn3
    have f0 := HB3.out.frozen 0
    have f1 := HB3.out.frozen 1
    have f2 := HB3.out.frozen 2
    have f3 := HB3.out.frozen 3
    obtain ⟨d0, d1, d2, d3⟩ := Hd.cell_at HB3.out
    have hbw := hide (Hd.put_at 0 0 0 0 HB3.out)
    have hkw := hide (Hd.put_kept (S := []) 0 0 0 0 HK3.out (.inr HG.out))
    go_wp2
    rw [put4_eq]
    generalize put4 w3 g 0 0 0 0 = W at hbw hkw ⊢
    obtain ⟨t0, t1, t2, t3⟩ := Hd.cell_at hbw.out
    refine bodyPost_ret (v := .tuple #[Hd.zero.val, .int .i64 2]) ?_ rfl ⟨by rw [HD.out], hkw.out⟩
    simp [results, Try.results9, go_sem, t0, t1, t2, t3, Hd.val, Hd.zero]
end Go.Proofs.Ytlhomheolcmocaa.hd
