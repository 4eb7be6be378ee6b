/- Package record: Decode, Size. -/
import Derived.Test.YtepooidgmaokeaaRecordRead
import Derived.Test.YtepooidgmaokeaaRecordEncode
import Derived.Test.YtepooidgmaokeaaBytesEq
namespace Go.Proofs.Ytepooidgmaokeaa.record
open Go.RowKit Go.Proofs.Ytepooidgmaokeaa.mem Go.Proofs.Ytepooidgmaokeaa.base Go.Proofs.Ytepooidgmaokeaa.row Go.Proofs.Ytepooidgmaokeaa.rowBack Go.Proofs.Ytepooidgmaokeaa.fill Go.Proofs.Ytepooidgmaokeaa.crc Go.Proofs.Ytepooidgmaokeaa.crcMath Go.Proofs.Ytepooidgmaokeaa.super Go.Proofs.Ytepooidgmaokeaa.item

theorem decodeC (bs : List UInt8) : decode bs = if (readC bs).may = true ∧ (readC bs).bytes = bs then (readC bs, ((readC bs).sum : Int), 0) else (Rc.zero, 0, 2) := by
  rcases decode_or bs with ⟨R, h1, h2, h3⟩ | h
  · have e : readC bs = R := by rw [← h2]; exact readC_bytes h1
    rw [e, if_pos ⟨R.may_iff.2 h1, h2⟩]
    exact h3
  · by_cases hc : (readC bs).may = true ∧ (readC bs).bytes = bs
    · rw [if_pos hc]
      conv => lhs; rw [← hc.2]
      exact decode_bytes ((Rc.may_iff _).1 hc.1)
    · rw [if_neg hc]
      exact h

set_option maxRecDepth 100000 in
set_option maxHeartbeats 2000000 in
theorem decode_any (A : Option Addr) (n c : Nat) (bs : List UInt8) (w : World) (hv : Vals w [] A (bs.map B)) (hl : bs.length = n) (hA : A = none → c = 0) (hn : n ≤ 65536) :
    Calls Try.prog 16 #[.slice A n c] w fun e w' => ∃ (L : Option Addr) (m lc : Nat) (P : Option Addr) (k pc : Nat),
      e = .returned (.tuple #[.agg #[.int .i64 (decode bs).1.m, .int .i64 (decode bs).1.l, .int .i64 (decode bs).1.p, .slice L m lc, .slice P k pc], .int .i64 (decode bs).2.1, .int .i64 (decode bs).2.2]) ∧ RcAt w' L m P k (decode bs).1 ∧ Kept [] w w' := by
  have HV := hide hv
  have HA := hide hA
  have HL := hide hl
  clear hv hA hl
  have hd := decodeC bs
  obtain ⟨R, hR⟩ : ∃ R : Rc, readC bs = R := ⟨_, rfl⟩
  rw [hR] at hd
  have HR := hide hR
  clear hR
  have hk0 := (Kept.refl [] w).alloc (.cells #[.int .i64 0, .int .i64 0, .int .i64 0, .slice none 0 0, .slice none 0 0] 25)
  have hb0 := Blk.new w 25 #[.int .i64 0, .int .i64 0, .int .i64 0, .slice none 0 0, .slice none 0 0]
  have hlt := hb0.lt
  obtain ⟨g, hg⟩ : ∃ g, w.heap.size = g := ⟨_, rfl⟩
  have HG := hide (Nat.le_of_eq hg)
  rw [hg] at hb0 hlt
  have HB0 := hide hb0
  have HK0 := hide hk0
  have HLT := hide hlt
  have HD := hide hd
  clear hb0 hk0 hd hlt
  go_enter Try.func16, Try.ntmps16
  go_wp2_with fail
  refine (read_far g A n c bs _ HLT.out (HV.out.kept HK0.out (by simp)) HL.out HA.out hn).mono ?_
  rintro e w1 ⟨L, m, lc, P, k, pc, rfl, hrc, hk⟩
  rw [HR.out] at hrc ⊢
  have HK1 := hide (HK0.out.trans hk (by simp))
  have HB1 := hide (hk.blk HB0.out (by simp))
  have hb2 := Blk.new w1 25 #[.int .i64 R.m, .int .i64 R.l, .int .i64 R.p, .slice L m lc, .slice P k pc]
  have hk2 := (Kept.refl [] w1).alloc (.cells #[.int .i64 R.m, .int .i64 R.l, .int .i64 R.p, .slice L m lc, .slice P k pc] 25)
  have HR2 := hide (hrc.kept hk2 (by simp))
  have HK2 := hide (HK1.out.trans hk2 (by simp))
  have HB2 := hide (hk2.blk HB1.out (by simp))
  have hgl := HB1.out.lt
  obtain ⟨s, hs⟩ : ∃ s, w1.heap.size = s := ⟨_, rfl⟩
  rw [hs] at hb2 hgl
  have HS2 := hide hb2
  obtain ⟨c0, c1, c2, c3, c4⟩ := cell5 HS2.out
  clear hb2 hk2 hk hrc HK1 HB1 HK0 HB0
  go_wp2_with fail
  refine (encode_any R L P m lc k pc _ HR2.out.at_).mono ?_
  rintro e w3 ⟨A3, n3, c3', rfl, hn3, hnb, hk⟩
  have HK3 := hide (HK2.out.trans hk (by simp))
  have HB3 := hide (hk.blk HB2.out (by simp))
  have HS3 := hide (hk.blk HS2.out (by simp))
  have HR3 := hide (HR2.out.kept hk (by simp))
  have HN3 := hide (hnb.vals (S := []) (by simp))
  have HV3 := hide (HV.out.kept HK3.out (by simp))
  clear hk HK2 HB2 HS2 HR2 hnb c0 c1 c2 c3 c4
  have f0 := HB3.out.frozen 0
  have f1 := HB3.out.frozen 1
  have f2 := HB3.out.frozen 2
  have f3 := HB3.out.frozen 3
  have f4 := HB3.out.frozen 4
  obtain ⟨d0, d1, d2, d3, d4⟩ := cell5 HB3.out
  by_cases hm : R.may = true
  · have e1 : encode R = (R.bytes, (R.sum : Int), 0) := if_pos hm
    rw [e1] at HN3 hn3 ⊢
    have HN := hide hn3
    by_cases hq : R.bytes = bs
    · have HD2 : Hid (decode bs = (R, (R.sum : Int), 0)) := hide (by rw [HD.out, if_pos ⟨hm, hq⟩])
      clear e1 hn3
      go_wp2_with fail
      refine (bytesEqual_any A3 A n3 n c3' c R.bytes bs _ HN.out.symm HL.out HN3.out HV3.out).mono ?_
      rintro e w4 ⟨rfl, rfl⟩
      rw [decide_eq_true hq]
      obtain ⟨c0, c1, c2, c3, c4⟩ := cell5 HS3.out
      have HBW := hide (put5 (.int .i64 R.m) (.int .i64 R.l) (.int .i64 R.p) (.slice L m lc) (.slice P k pc) HB3.out)
      have HKW := hide (put5_kept (g := g) (S := []) (.int .i64 R.m) (.int .i64 R.l) (.int .i64 R.p) (.slice L m lc) (.slice P k pc) HK3.out (.inr HG.out))
      have HRW := hide (HR3.out.kept (put5_kept (g := g) (S := [g]) (.int .i64 R.m) (.int .i64 R.l) (.int .i64 R.p) (.slice L m lc) (.slice P k pc) (Kept.refl [g] w3) (.inl (by simp))) (by simp))
      go_wp2
      generalize (((((w3.setCell ⟨g, 0, none⟩ (.int .i64 R.m)).setCell ⟨g, 1, none⟩ (.int .i64 R.l)).setCell ⟨g, 2, none⟩ (.int .i64 R.p)).setCell ⟨g, 3, none⟩ (.slice L m lc)).setCell ⟨g, 4, none⟩ (.slice P k pc)) = W at HBW HKW HRW ⊢
      obtain ⟨t0, t1, t2, t3, t4⟩ := cell5 HBW.out
      refine bodyPost_ret (v := .tuple #[.agg #[.int .i64 R.m, .int .i64 R.l, .int .i64 R.p, .slice L m lc, .slice P k pc], .int .i64 R.sum, .int .i64 0]) ?_ rfl ⟨L, m, lc, P, k, pc, by rw [HD2.out], by rw [HD2.out]; exact HRW.out.at_, HKW.out⟩
      simp [results, Try.results16, go_sem, t0, t1, t2, t3, t4]
    · have HD2 : Hid (decode bs = (Rc.zero, 0, 2)) := hide (by rw [HD.out, if_neg (fun h => hq h.2)])
      clear e1 hn3
      go_wp2_with fail
      refine (bytesEqual_any A3 A n3 n c3' c R.bytes bs _ HN.out.symm HL.out HN3.out HV3.out).mono ?_
      rintro e w4 ⟨rfl, rfl⟩
      rw [decide_eq_false hq]
      have HBW := hide (put5 (.int .i64 0) (.int .i64 0) (.int .i64 0) (.slice none 0 0) (.slice none 0 0) HB3.out)
      have HKW := hide (put5_kept (g := g) (S := []) (.int .i64 0) (.int .i64 0) (.int .i64 0) (.slice none 0 0) (.slice none 0 0) HK3.out (.inr HG.out))
      go_wp2
      generalize (((((w3.setCell ⟨g, 0, none⟩ (.int .i64 0)).setCell ⟨g, 1, none⟩ (.int .i64 0)).setCell ⟨g, 2, none⟩ (.int .i64 0)).setCell ⟨g, 3, none⟩ (.slice none 0 0)).setCell ⟨g, 4, none⟩ (.slice none 0 0)) = W at HBW HKW ⊢
      obtain ⟨t0, t1, t2, t3, t4⟩ := cell5 HBW.out
      refine bodyPost_ret (v := .tuple #[.agg #[.int .i64 0, .int .i64 0, .int .i64 0, .slice none 0 0, .slice none 0 0], .int .i64 0, .int .i64 2]) ?_ rfl ⟨none, 0, 0, none, 0, 0, by rw [HD2.out]; rfl, by rw [HD2.out]; exact RcAt.zero _ _ _, HKW.out⟩
      simp [results, Try.results16, go_sem, t0, t1, t2, t3, t4]
  · have e1 : encode R = ([], 0, 1) := if_neg hm
    rw [e1] at HN3 hn3 ⊢
    have HD2 : Hid (decode bs = (Rc.zero, 0, 2)) := hide (by rw [HD.out, if_neg (fun h => hm h.1)])
    clear e1 hn3
    have HBW := hide (put5 (.int .i64 0) (.int .i64 0) (.int .i64 0) (.slice none 0 0) (.slice none 0 0) HB3.out)
    have HKW := hide (put5_kept (g := g) (S := []) (.int .i64 0) (.int .i64 0) (.int .i64 0) (.slice none 0 0) (.slice none 0 0) HK3.out (.inr HG.out))
    go_wp2
    generalize (((((w3.setCell ⟨g, 0, none⟩ (.int .i64 0)).setCell ⟨g, 1, none⟩ (.int .i64 0)).setCell ⟨g, 2, none⟩ (.int .i64 0)).setCell ⟨g, 3, none⟩ (.slice none 0 0)).setCell ⟨g, 4, none⟩ (.slice none 0 0)) = W at HBW HKW ⊢
    obtain ⟨t0, t1, t2, t3, t4⟩ := cell5 HBW.out
    refine bodyPost_ret (v := .tuple #[.agg #[.int .i64 0, .int .i64 0, .int .i64 0, .slice none 0 0, .slice none 0 0], .int .i64 0, .int .i64 2]) ?_ rfl ⟨none, 0, 0, none, 0, 0, by rw [HD2.out]; rfl, by rw [HD2.out]; exact RcAt.zero _ _ _, HKW.out⟩
    simp [results, Try.results16, go_sem, t0, t1, t2, t3, t4]
end Go.Proofs.Ytepooidgmaokeaa.record
