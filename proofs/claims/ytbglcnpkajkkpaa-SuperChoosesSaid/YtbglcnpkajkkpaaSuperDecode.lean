/- Package super: Decode. -/
import Derived.Test.YtbglcnpkajkkpaaSuperDec
namespace Go.Proofs.Ytbglcnpkajkkpaa.super
open Go.RowKit Go.Proofs.Ytbglcnpkajkkpaa.mem Go.Proofs.Ytbglcnpkajkkpaa.base Go.Proofs.Ytbglcnpkajkkpaa.row Go.Proofs.Ytbglcnpkajkkpaa.rowBack Go.Proofs.Ytbglcnpkajkkpaa.fill Go.Proofs.Ytbglcnpkajkkpaa.crc Go.Proofs.Ytbglcnpkajkkpaa.crcMath

/-- A superblock's cells. -/
def Su.cells (S : Su) : Array Value := #[.int .i64 S.k, .int .i64 S.s, .int .i64 S.l, .int .i64 S.i, .int .i64 S.m]
theorem Su.cell_at {w : World} {g : Nat} {t : TypeId} {S : Su} (h : Blk w g t S.cells) : w.cell? ⟨g, 0, none⟩ = some (.int .i64 S.k) ∧ w.cell? ⟨g, 1, none⟩ = some (.int .i64 S.s) ∧ w.cell? ⟨g, 2, none⟩ = some (.int .i64 S.l) ∧ w.cell? ⟨g, 3, none⟩ = some (.int .i64 S.i) ∧ w.cell? ⟨g, 4, none⟩ = some (.int .i64 S.m) :=
  ⟨h.cell 0, h.cell 1, h.cell 2, h.cell 3, h.cell 4⟩
theorem Su.put_at {w : World} {g : Nat} {t : TypeId} {S : Su} (a b c d e : Int) (h : Blk w g t S.cells) : Blk (((((w.setCell ⟨g, 0, none⟩ (.int .i64 a)).setCell ⟨g, 1, none⟩ (.int .i64 b)).setCell ⟨g, 2, none⟩ (.int .i64 c)).setCell ⟨g, 3, none⟩ (.int .i64 d)).setCell ⟨g, 4, none⟩ (.int .i64 e)) g t (Su.cells ⟨a, b, c, d, e⟩) :=
  (((((h.set_ 0 (.int .i64 a)).set_ 1 (.int .i64 b)).set_ 2 (.int .i64 c)).set_ 3 (.int .i64 d)).set_ 4 (.int .i64 e))
theorem Su.put_kept {v w : World} {g : Nat} {S : List Nat} (a b c d e : Int) (h : Kept S v w) (hg : g ∈ S ∨ v.heap.size ≤ g) : Kept S v (((((w.setCell ⟨g, 0, none⟩ (.int .i64 a)).setCell ⟨g, 1, none⟩ (.int .i64 b)).setCell ⟨g, 2, none⟩ (.int .i64 c)).setCell ⟨g, 3, none⟩ (.int .i64 d)).setCell ⟨g, 4, none⟩ (.int .i64 e)) :=
  (((((h.set_ hg 0 (.int .i64 a)).set_ hg 1 (.int .i64 b)).set_ hg 2 (.int .i64 c)).set_ hg 3 (.int .i64 d)).set_ hg 4 (.int .i64 e))

set_option maxRecDepth 100000 in
set_option maxHeartbeats 1000000 in
theorem decode_any (A : Option Addr) (n c : Nat) (bs : List UInt8) (w : World) (hv : Vals w [] A (bs.map B)) (hl : bs.length = n) (hA : A = none → c = 0) (hn : n ≤ 65536) :
    Calls Try.prog 10 #[.slice A n c] w fun e w' => e = .returned (.tuple #[(decode bs).1.val, .int .i64 (decode bs).2]) ∧ Kept [] w w' := by
  have HV := hide hv
  have HA := hide hA
  have HL := hide hl
  clear hv hA hl
  obtain ⟨u, hu⟩ : ∃ u : Su, readOf bs = u := ⟨_, rfl⟩
  have HU := hide hu
  clear hu
  have hb0 : Blk (w.alloc (.cells Su.zero.cells 25)) w.heap.size 25 Su.zero.cells := Blk.new w _ _
  have hk0 : Kept [] w (w.alloc (.cells Su.zero.cells 25)) := (Kept.refl [] w).alloc _
  have hlt := hb0.lt
  obtain ⟨g, hg⟩ : ∃ g, w.heap.size = g := ⟨_, rfl⟩
  have HG : Hid (w.heap.size ≤ g) := hide (Nat.le_of_eq hg)
  go_enter Try.func10, Try.ntmps10
  rw [hg] at hb0 hlt
  have HB0 := hide hb0
  have HK0 := hide hk0
  clear hb0 hk0
  go_wp2_with fail
  refine (read_any A n c bs _ (HV.out.kept HK0.out (by simp)) HL.out HA.out hn).mono ?_
  rintro e w1 ⟨rfl, hk⟩
  rw [HU.out]
  unfold Su.val
  have hs1 := hk.size
  have HK1 := hide (HK0.out.trans hk (by simp))
  have HB1 := hide (hk.blk HB0.out (by simp))
  clear hk HK0 HB0
  have hb2 : Blk (w1.alloc (.cells u.cells 25)) w1.heap.size 25 u.cells := Blk.new w1 _ _
  have HK2 := hide (HK1.out.alloc (.cells u.cells 25))
  have HB2 := hide (HB1.out.alloc (.cells u.cells 25))
  have hgl := HB1.out.lt
  obtain ⟨s, hs⟩ : ∃ s, w1.heap.size = s := ⟨_, rfl⟩
  rw [hs] at hb2 hgl
  have HS2 := hide hb2
  clear hb2 HK1 HB1
  go_wp2_with fail
  refine (encode_any u _).mono ?_
  rintro e w3 ⟨A3, n3, c3, rfl, hn3, hnb, hk⟩
  have hs3 := hk.size
  have HK3 := hide (HK2.out.trans hk (by simp))
  have HB3 := hide (hk.blk HB2.out (by simp))
  have HS3 := hide (hk.blk HS2.out (by simp))
  have HN3 := hide (hnb.vals (S := []) (by simp))
  have HV3 := hide (HV.out.kept HK3.out (by simp))
  clear hk HK2 HB2 HS2 hnb
  have hd : decode bs = if u.may = true ∧ u.bytes = bs then (u, 0) else (Su.zero, 2) := by unfold decode; rw [HU.out]
  by_cases hm : u.may = true
  · have e1 : encode u = (u.bytes, 0) := if_pos hm
    rw [e1] at HN3 hn3 ⊢
    have HN := hide hn3
    by_cases hq : u.bytes = bs
    · rw [if_pos ⟨hm, hq⟩] at hd
      have HD := hide hd
      clear hd e1 hn3
      go_wp2_with fail
      refine (bytesEqual_any A3 A n3 n c3 c u.bytes bs _ HN.out.symm HL.out HN3.out HV3.out).mono ?_
      rintro e w4 ⟨rfl, rfl⟩
      rw [decide_eq_true hq]
      obtain ⟨c0, c1, c2, c3', c4⟩ := Su.cell_at HS3.out
      have f0 := HB3.out.frozen 0
      have f1 := HB3.out.frozen 1
      have f2 := HB3.out.frozen 2
      have f3 := HB3.out.frozen 3
      have f4 := HB3.out.frozen 4
      obtain ⟨d0, d1, d2, d3, d4⟩ := Su.cell_at HB3.out
      have hbw := hide (Su.put_at u.k u.s u.l u.i u.m HB3.out)
      have hkw := hide (Su.put_kept (S := []) u.k u.s u.l u.i u.m HK3.out (.inr HG.out))
      go_wp2
      generalize (((((w3.setCell ⟨g, 0, none⟩ (.int .i64 u.k)).setCell ⟨g, 1, none⟩ (.int .i64 u.s)).setCell ⟨g, 2, none⟩ (.int .i64 u.l)).setCell ⟨g, 3, none⟩ (.int .i64 u.i)).setCell ⟨g, 4, none⟩ (.int .i64 u.m)) = W at hbw hkw ⊢
      obtain ⟨t0, t1, t2, t3, t4⟩ := Su.cell_at hbw.out
      refine bodyPost_ret (v := .tuple #[u.val, .int .i64 0]) ?_ rfl ⟨by rw [HD.out], hkw.out⟩
      simp [results, Try.results10, go_sem, t0, t1, t2, t3, t4, Su.val]
    · rw [if_neg (fun h => hq h.2)] at hd
      have HD := hide hd
      clear hd e1 hn3
      go_wp2_with fail
      refine (bytesEqual_any A3 A n3 n c3 c u.bytes bs _ HN.out.symm HL.out HN3.out HV3.out).mono ?_
      rintro e w4 ⟨rfl, rfl⟩
      rw [decide_eq_false hq]
      have f0 := HB3.out.frozen 0
      have f1 := HB3.out.frozen 1
      have f2 := HB3.out.frozen 2
      have f3 := HB3.out.frozen 3
      have f4 := HB3.out.frozen 4
      obtain ⟨d0, d1, d2, d3, d4⟩ := Su.cell_at HB3.out
      have hbw := hide (Su.put_at 0 0 0 0 0 HB3.out)
      have hkw := hide (Su.put_kept (S := []) 0 0 0 0 0 HK3.out (.inr HG.out))
      go_wp2
      generalize (((((w3.setCell ⟨g, 0, none⟩ (.int .i64 0)).setCell ⟨g, 1, none⟩ (.int .i64 0)).setCell ⟨g, 2, none⟩ (.int .i64 0)).setCell ⟨g, 3, none⟩ (.int .i64 0)).setCell ⟨g, 4, none⟩ (.int .i64 0)) = W at hbw hkw ⊢
      obtain ⟨t0, t1, t2, t3, t4⟩ := Su.cell_at hbw.out
      refine bodyPost_ret (v := .tuple #[Su.zero.val, .int .i64 2]) ?_ rfl ⟨by rw [HD.out], hkw.out⟩
      simp [results, Try.results10, go_sem, t0, t1, t2, t3, t4, Su.val, Su.zero]
  · have e1 : encode u = ([], 1) := if_neg hm
    rw [e1] at HN3 hn3 ⊢
    rw [if_neg (fun h => hm h.1)] at hd
    have HD := hide hd
    clear hd e1 hn3
    have f0 := HB3.out.frozen 0
    have f1 := HB3.out.frozen 1
    have f2 := HB3.out.frozen 2
    have f3 := HB3.out.frozen 3
    have f4 := HB3.out.frozen 4
    obtain ⟨d0, d1, d2, d3, d4⟩ := Su.cell_at HB3.out
    have hbw := hide (Su.put_at 0 0 0 0 0 HB3.out)
    have hkw := hide (Su.put_kept (S := []) 0 0 0 0 0 HK3.out (.inr HG.out))
    go_wp2
    generalize (((((w3.setCell ⟨g, 0, none⟩ (.int .i64 0)).setCell ⟨g, 1, none⟩ (.int .i64 0)).setCell ⟨g, 2, none⟩ (.int .i64 0)).setCell ⟨g, 3, none⟩ (.int .i64 0)).setCell ⟨g, 4, none⟩ (.int .i64 0)) = W at hbw hkw ⊢
    obtain ⟨t0, t1, t2, t3, t4⟩ := Su.cell_at hbw.out
    refine bodyPost_ret (v := .tuple #[Su.zero.val, .int .i64 2]) ?_ rfl ⟨by rw [HD.out], hkw.out⟩
    simp [results, Try.results10, go_sem, t0, t1, t2, t3, t4, Su.val, Su.zero]
end Go.Proofs.Ytbglcnpkajkkpaa.super
