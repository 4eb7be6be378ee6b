/- Package item: get, read, Decode. -/
import Derived.Test.YtbghkfjjmgmjmaaItemEnc
namespace Go.Proofs.Ytbghkfjjmgmjmaa.item
open Go.RowKit Go.Proofs.Ytbghkfjjmgmjmaa.mem Go.Proofs.Ytbghkfjjmgmjmaa.base Go.Proofs.Ytbghkfjjmgmjmaa.row Go.Proofs.Ytbghkfjjmgmjmaa.rowBack Go.Proofs.Ytbghkfjjmgmjmaa.fill

theorem get_any (p b cap : Nat) (A : Option Addr) (bs : List UInt8) (pos pos' x : Nat) (y : Int) (w : World) (h : RowAt w p b cap A ⟨bs, pos⟩) (hx : isW (x : Int) = true) (hp : pos + x ≤ bs.length) (hq : pos' = pos + x) (hy : numOf ((bs.drop pos).take x) = y) :
    Calls Try.prog 40 #[.pointer (some ⟨p, 0, none⟩), .int .i64 x] w fun e w' => e = .returned (.int .i64 y) ∧ RowAt w' p b cap A ⟨bs, pos'⟩ ∧ Kept [p] w w' := by
  have H := hide h
  have HG := hide (get_at_ok bs pos x hx hp)
  have HY := hide hy
  subst hq
  clear h hy hx hp
  go_enter Try.func40, Try.ntmps40
  go_wp2_with fail
  refine (row.get_at p b cap A ⟨bs, pos⟩ x _ H.out).mono ?_
  rintro e w1 ⟨rfl, hr, hk⟩
  rw [HG.out] at hr
  rw [HG.out, HY.out]
  have HR := hide hr
  have HK := hide hk
  clear hr hk
  go_wp2
  go_ret
  exact ⟨rfl, HR.out, HK.out⟩

set_option maxRecDepth 100000 in
theorem read_any (p b cap : Nat) (A : Option Addr) (bs : List UInt8) (pos : Nat) (i : It) (w : World) (h : RowAt w p b cap A ⟨bs, pos⟩) (hp : pos + 7 ≤ bs.length) (hi : itAt bs pos = i) :
    Calls Try.prog 31 #[.pointer (some ⟨p, 0, none⟩)] w fun e w' => e = .returned i.val ∧ RowAt w' p b cap A ⟨bs, pos + 7⟩ ∧ Kept [p] w w' := by
  have hk1 : numOf ((bs.drop pos).take 1) = i.k := by rw [← hi]; rfl
  have hb1 : numOf ((bs.drop (pos + 1)).take 1) = i.b := by rw [← hi]; rfl
  have hc1 : numOf ((bs.drop (pos + 2)).take 1) = i.c := by rw [← hi]; rfl
  have hv1 : numOf ((bs.drop (pos + 3)).take 4) = i.v := by rw [← hi]; rfl
  have HK1 := hide hk1
  have HB1 := hide hb1
  have HC1 := hide hc1
  have HV1 := hide hv1
  have HP := hide hp
  have hlt := h.lt
  have hbl : b < w.heap.size := (h.2.1 (by intro e; have e2 : bs = [] := e; rw [e2] at hp; simp at hp)).lt
  obtain ⟨g, hg⟩ : ∃ g, w.heap.size = g := ⟨_, rfl⟩
  have HB0 := hide (Blk.new w 26 It.zero.cells)
  have hk0 := (Kept.refl [p] w).alloc (.cells It.zero.cells 26)
  have HK0 := hide hk0
  have HR0 := hide (h.kept (S := []) ((Kept.refl _ w).alloc (.cells It.zero.cells 26)) (by simp) (by simp))
  have HG := hide (show p ≠ g by omega)
  have HBG := hide (show b ≠ g by omega)
  clear h hi hk1 hb1 hc1 hv1 hp hk0
  go_enter Try.func31, Try.ntmps31
  rw [hg] at HB0
  go_wp2_with fail
  refine (get_any p b cap A bs pos (pos + 1) 1 i.k _ HR0.out rfl (by have := HP.out; omega) rfl HK1.out).mono ?_
  rintro e w1 ⟨rfl, hr, hk⟩
  have HR2 := hide hr
  have HB2 := hide (hk.blk HB0.out (by simp [HG.out.symm]))
  have HK2 := hide (HK0.out.trans hk (by simp))
  clear hr hk HR0 HB0 HK0
  go_wp2_with fail
  refine (get_any p b cap A bs (pos + 1) (pos + 2) 1 i.b _ HR2.out rfl (by have := HP.out; omega) rfl HB1.out).mono ?_
  rintro e w2 ⟨rfl, hr, hk⟩
  have HR3 := hide hr
  have HB3 := hide (hk.blk HB2.out (by simp [HG.out.symm]))
  have HK3 := hide (HK2.out.trans hk (by simp))
  clear hr hk HR2 HB2 HK2
  go_wp2_with fail
  refine (get_any p b cap A bs (pos + 2) (pos + 3) 1 i.c _ HR3.out rfl (by have := HP.out; omega) rfl HC1.out).mono ?_
  rintro e w3 ⟨rfl, hr, hk⟩
  have HR4 := hide hr
  have HB4 := hide (hk.blk HB3.out (by simp [HG.out.symm]))
  have HK4 := hide (HK3.out.trans hk (by simp))
  clear hr hk HR3 HB3 HK3
  go_wp2_with fail
  refine (get_any p b cap A bs (pos + 3) (pos + 7) 4 i.v _ HR4.out rfl (by have := HP.out; omega) rfl HV1.out).mono ?_
  rintro e w4 ⟨rfl, hr, hk⟩
  have HR5 := hide hr
  have HB5 := hide (hk.blk HB4.out (by simp [HG.out.symm]))
  have HK5 := hide (HK4.out.trans hk (by simp))
  clear hr hk HR4 HB4 HK4
  have f0 := HB5.out.frozen 0
  have f1 := HB5.out.frozen 1
  have f2 := HB5.out.frozen 2
  have f3 := HB5.out.frozen 3
  obtain ⟨d0, d1, d2, d3⟩ := It.cell_at HB5.out
  have hbw := hide (It.put_at i.k i.b i.c i.v HB5.out)
  have hkw := hide (It.put_kept i.k i.b i.c i.v HK5.out (g := g) (.inr (Nat.le_of_eq hg)))
  have hrw := hide (HR5.out.kept (It.put_kept i.k i.b i.c i.v (Kept.refl [g] w4) (g := g) (.inl (by simp))) (by simp [HG.out]) (by simp [HBG.out]))
  go_wp2
  generalize ((((w4.setCell ⟨g, 0, none⟩ (.int .i64 i.k)).setCell ⟨g, 1, none⟩ (.int .i64 i.b)).setCell ⟨g, 2, none⟩ (.int .i64 i.c)).setCell ⟨g, 3, none⟩ (.int .i64 i.v)) = W at hbw hkw hrw ⊢
  obtain ⟨t0, t1, t2, t3⟩ := It.cell_at hbw.out
  refine bodyPost_ret (v := i.val) ?_ rfl ⟨rfl, hrw.out, hkw.out⟩
  simp [results, Try.results31, go_sem, t0, t1, t2, t3, It.val]
end Go.Proofs.Ytbghkfjjmgmjmaa.item
