/- The reference's RegionOf. (Written by tools/genrgrof.py.) -/
import Derived.Test.YthacnlpdodlggaaRegionRBytes
import Derived.Test.YthacnlpdodlggaaRegionOwn
import Derived.Test.YthacnlpdodlggaaOrders
namespace Go.Proofs.Ythacnlpdodlggaa.rg
set_option linter.unusedSimpArgs false
open Go.RowKit Go.Proofs.Ythacnlpdodlggaa.mem Go.Proofs.Ythacnlpdodlggaa.base Go.Proofs.Ythacnlpdodlggaa.row Go.Proofs.Ythacnlpdodlggaa.rowBack Go.Proofs.Ythacnlpdodlggaa.fill Go.Proofs.Ythacnlpdodlggaa.crc Go.Proofs.Ythacnlpdodlggaa.crcMath Go.Proofs.Ythacnlpdodlggaa.ref
open Go.Proofs.Ythacnlpdodlggaa.super (r0 take2)

theorem blk_conv {w : World} {g : Nat} {t : TypeId} {cs ds : Array Value} (h : Blk w g t cs) (e : cs = ds) : Blk w g t ds := e ▸ h
theorem rnum_eq (p g : Nat) (R R' : Row) (x y : Int) (k : Bool) (w : World) (h : RefAt w p g R) (hR : R.get x = (y, k, R')) :
    Calls Try.prog 51 #[.pointer (some ⟨p, 0, none⟩), .int .i64 x] w fun e w' => e = .returned (.int .i64 y) ∧ RefAt w' p g R' ∧ Kept [p] w w' :=
  rnum_any p g R R' x y w h (by rw [hR]) (by rw [hR])
theorem decode_starts {D : Dv} (hD : D.ok) (bs : List UInt8) (h : startB bs (64 * D.r) 75 67 = false) : decode D bs = (Rg.zero, 2) :=
  decode_no D bs fun S hS e => by
    have h1 := (bytes_start D S).1
    have h2 := (bytes_start D S).2
    have h3 := Rg.bytes_len hD hS
    rw [e] at h1 h2 h3
    unfold startB at h
    rw [h1, h2, decide_eq_true h3] at h
    cases h
theorem requal_any (A1 A2 : Option Addr) (n1 n2 c1 c2 : Nat) (xs ys : List UInt8) (w : World) (hn1 : xs.length = n1) (hn2 : ys.length = n2) (h1 : Vals w [] A1 (xs.map B)) (h2 : Vals w [] A2 (ys.map B)) (hm : n1 ≤ 140737488355328) :
    Calls Try.prog 46 #[.slice A1 n1 c1, .slice A2 n2 c2] w fun e w' => e = .returned (.bool (decide (xs = ys))) ∧ Kept [] w w' := by
  subst hn1 hn2
  exact (base.equal_any A1 A2 c1 c2 xs ys w h1 h2 hm).mono fun e w' ⟨h, k, hw⟩ => ⟨h, by subst hw; exact (Kept.refl [] w).drewN k⟩
theorem chold {w0 W W' : World} {q : Nat} {b n z : Int} {S S' : List Nat} (h : Kept S w0 W ∧ W.cell? ⟨q, 0, none⟩ = some (.int .i64 b) ∧ W.cell? ⟨q, 1, none⟩ = some (.int .i64 n) ∧ W.cell? ⟨q, 2, none⟩ = some (.int .i64 z)) (hk : Kept S' W W') (hS : ∀ i ∈ S', i ∈ S) (hq : q ∉ S') :
    Kept S w0 W' ∧ W'.cell? ⟨q, 0, none⟩ = some (.int .i64 b) ∧ W'.cell? ⟨q, 1, none⟩ = some (.int .i64 n) ∧ W'.cell? ⟨q, 2, none⟩ = some (.int .i64 z) :=
  ⟨h.1.trans hk (fun i hi => .inl (hS i hi)), hk.cell h.2.1 hq, hk.cell h.2.2.1 hq, hk.cell h.2.2.2 hq⟩

set_option maxRecDepth 100000 in
set_option maxHeartbeats 4000000 in
theorem rof_any (D : Dv) (hD : D.ok) (A : Option Addr) (n c : Nat) (bs : List UInt8) (w : World) (hv : Vals w [] A (bs.map B)) (hl : bs.length = n) (hnc : n ≤ c) (hn : n ≤ 65536) :
    Calls Try.prog 15 #[.agg #[.int .i64 D.b, .int .i64 D.n, .int .i64 D.z], .slice A n c] w fun e w' => ∃ X, e = .returned (.tuple #[(decode D bs).1.val X, .int .i64 (decode D bs).2]) ∧ X.small ∧ (∀ S : List Nat, (∀ i ∈ S, i < w.heap.size) → RgIn w' S X (decode D bs).1) ∧ Kept [] w w' := by
  have HL := hide hl
  have hbd := hD.bd
  have hy : 1 ≤ D.y ∧ D.y ≤ 5 := ⟨hbd.2.2.1, hbd.2.2.2.1⟩
  have hn32 := hD.hn.2
  have hr4 : D.r ≤ 4 := hbd.2.1
  have hr2 : 2 ≤ D.r := hbd.1
  obtain ⟨q, hq⟩ : ∃ q, w.heap.size = q := ⟨_, rfl⟩
  obtain ⟨g, hg⟩ : ∃ g, q + 1 = g := ⟨_, rfl⟩
  obtain ⟨s, hs⟩ : ∃ s, g + 1 = s := ⟨_, rfl⟩
  obtain ⟨w1, hw1⟩ : ∃ w1, ((w.alloc (.cells #[.int .i64 D.b, .int .i64 D.n, .int .i64 D.z] 31)).alloc (.cells (Rg.zero.cells Sl.zero) 28)).alloc (.cells (Rg.zero.cells Sl.zero) 28) = w1 := ⟨_, rfl⟩
  have hbq : Blk w1 q 31 #[.int .i64 D.b, .int .i64 D.n, .int .i64 D.z] := by rw [← hw1, ← hq]; exact ((Blk.new w _ _).alloc _).alloc _
  have hbg : Blk w1 g 28 (Rg.zero.cells Sl.zero) := by
    have := (Blk.new (w.alloc (.cells #[.int .i64 D.b, .int .i64 D.n, .int .i64 D.z] 31)) 28 (Rg.zero.cells Sl.zero)).alloc (.cells (Rg.zero.cells Sl.zero) 28)
    rw [hw1] at this
    simpa [hq, hg] using this
  have hbs : Blk w1 s 28 (Rg.zero.cells Sl.zero) := by
    have := Blk.new ((w.alloc (.cells #[.int .i64 D.b, .int .i64 D.n, .int .i64 D.z] 31)).alloc (.cells (Rg.zero.cells Sl.zero) 28)) 28 (Rg.zero.cells Sl.zero)
    rw [hw1] at this
    simpa [hq, hg, hs] using this
  have hk1 : Kept [] w w1 := by rw [← hw1]; exact (((Kept.refl [] w).alloc _).alloc _).alloc _
  have HWQ : Hid (w.heap.size ≤ q) := hide (Nat.le_of_eq hq)
  have HWG : Hid (w.heap.size ≤ g) := hide (by omega)
  have HWS : Hid (w.heap.size ≤ s) := hide (by omega)
  have hqg : q < g := by omega
  have hgs : g < s := by omega
  have HV1 := hide (hv.kept hk1 (by simp))
  have HQ1 := hide hbq
  have HG1 := hide hbg
  have HS1 := hide hbs
  have HK1 := hide hk1
  have HD := hide hD
  have HVW := hide hv
  obtain ⟨N, hN⟩ : ∃ N, 64 * D.r = N := ⟨_, rfl⟩
  have HN := hide hN
  have g1 : IntKind.i64.wrap ((D.r : Int) * 64) = (N : Int) := by rw [show (D.r : Int) * 64 = (N : Int) by omega]; exact IntWalk.i64_in _ (by omega)
  have hN2 : 2 ≤ N := by omega
  obtain ⟨d0, d1, d2⟩ := cfg_cells hbq
  simp only [Rg.cells, Rg.zero, Sl.zero] at hw1
  have HW := hide hw1
  clear hbq hbg hbs hk1 hv hl hw1 hbd hN
  go_enter Try.func15, Try.ntmps15
  have hwz : ((w.alloc (.cells #[.int .i64 D.b, .int .i64 D.n, .int .i64 D.z] 31)).alloc (.cells #[.int .i64 0, .int .i64 0, .int .i64 0, .int .i64 0, .int .i64 0, .int .i64 0, .int .i64 0, .int .i64 0, .int .i64 0, .int .i64 0, .int .i64 0, .slice none 0 0, .slice none 0 0, .slice none 0 0] 28)).alloc (.cells #[.int .i64 0, .int .i64 0, .int .i64 0, .int .i64 0, .int .i64 0, .int .i64 0, .int .i64 0, .int .i64 0, .int .i64 0, .int .i64 0, .int .i64 0, .slice none 0 0, .slice none 0 0, .slice none 0 0] 28) = w1 := HW.out
  go_wp2_with fail
  try rw [hwz]
  clear hwz HW
  refine (rlen D HD.out _).mono ?_
  rintro e w2 ⟨rfl, hk⟩
  have HV2 := hide (HV1.out.kept hk (by simp))
  have HQ2 := hide (hk.blk HQ1.out (by simp))
  have HG2 := hide (hk.blk HG1.out (by simp))
  have HS2 := hide (hk.blk HS1.out (by simp))
  have HK2 := hide (HK1.out.trans hk (by simp))
  clear hk d0 d1 d2 HV1 HQ1 HG1 HS1 HK1
  go_wp2_with fail
  refine (rstarts_any A n c N 75 67 bs _ HV2.out HL.out hN2).mono ?_
  rintro e w3 ⟨rfl, rfl⟩
  clear g1
  by_cases hst : startB bs N 75 67 = true
  · rw [hst]
    have hnN : n = N := by
      unfold startB at hst
      simp only [Bool.and_eq_true, decide_eq_true_eq] at hst
      have := HL.out
      omega
    subst hnN
    clear hst
    have hsl := HS2.out.lt
    go_wp2_with fail
    refine (rfrom_ok A n c bs _ HL.out hnc HV2.out (by omega)).mono ?_
    rintro e w4 ⟨p, b, rfl, hp, hb, hr, hk⟩
    have hps : s < p := by omega
    have hbs : s < b := by omega
    have HPW : Hid (w.heap.size ≤ p) := hide (by have := HK2.out.size; omega)
    have hr0 : (⟨bs, 2⟩ : Row) = r0 bs := (take2 bs (by rw [HL.out]; omega)).symm
    have hr2' := hr.goto 2 (by have := HL.out; dsimp only; omega) 2 rfl
    dsimp only at hr2'
    rw [hr0] at hr2'
    have c1 := hr.c1
    have f1 := hr.f1
    dsimp only at c1
    have HR0 := hide hr2'
    have hkp : Kept [p] w4 (w4.setCell ⟨p, 1, none⟩ (.int .i64 2)) := (Kept.refl [p] w4).set_ (b := p) (.inl (by simp)) 1 _
    have HS0 : Hid (Blk (w4.setCell ⟨p, 1, none⟩ (.int .i64 2)) s 28 (Rg.cells ⟨0, 0, 0, 0, 0, 0, 0, 0, 0, 0, 0, [], [], []⟩ Sl.zero)) := hide (hkp.blk (hk.blk HS2.out (by simp)) (by simp; omega))
    have HKB : Hid (Kept [p, s] w4 (w4.setCell ⟨p, 1, none⟩ (.int .i64 2))) := hide (hkp.mono (by simp))
    have HQ4 := hide (hk.blk HQ2.out (by simp))
    have HG4 := hide (hk.blk HG2.out (by simp))
    have HV4 := hide (HV2.out.kept hk (by simp))
    have HK4 := hide (HK2.out.trans hk (by simp))
    have hpne : p ≠ s := by omega
    have hbne : b ≠ s := by omega
    have hpl := hr.lt
    have hbl := hr.blt
    clear hr hk hr2' hr0 HQ2 HG2 HS2 HV2 HK2 hp hb hkp hsl
    obtain ⟨y1, k1, R1, e1⟩ : ∃ y k R', (r0 bs).get 4 = (y, k, R') := ⟨_, _, _, rfl⟩
    obtain ⟨y2, k2, R2, e2⟩ : ∃ y k R', R1.get 4 = (y, k, R') := ⟨_, _, _, rfl⟩
    obtain ⟨y3, k3, R3, e3⟩ : ∃ y k R', R2.get 1 = (y, k, R') := ⟨_, _, _, rfl⟩
    obtain ⟨y4, k4, R4, e4⟩ : ∃ y k R', R3.get 4 = (y, k, R') := ⟨_, _, _, rfl⟩
    obtain ⟨y5, k5, R5, e5⟩ : ∃ y k R', R4.get 4 = (y, k, R') := ⟨_, _, _, rfl⟩
    obtain ⟨y6, k6, R6, e6⟩ : ∃ y k R', R5.get 4 = (y, k, R') := ⟨_, _, _, rfl⟩
    obtain ⟨y7, k7, R7, e7⟩ : ∃ y k R', R6.get 1 = (y, k, R') := ⟨_, _, _, rfl⟩
    obtain ⟨y8, k8, R8, e8⟩ : ∃ y k R', R7.get 1 = (y, k, R') := ⟨_, _, _, rfl⟩
    obtain ⟨y9, k9, R9, e9⟩ : ∃ y k R', R8.get 4 = (y, k, R') := ⟨_, _, _, rfl⟩
    obtain ⟨y10, k10, R10, e10⟩ : ∃ y k R', R9.get 4 = (y, k, R') := ⟨_, _, _, rfl⟩
    obtain ⟨y11, k11, R11, e11⟩ : ∃ y k R', R10.get 4 = (y, k, R') := ⟨_, _, _, rfl⟩
    obtain ⟨y12, k12, R12, e12⟩ : ∃ y k R', R11.get 1 = (y, k, R') := ⟨_, _, _, rfl⟩
    obtain ⟨y13, k13, R13, e13⟩ : ∃ y k R', R12.get 1 = (y, k, R') := ⟨_, _, _, rfl⟩
    obtain ⟨hro, hy12, hy13⟩ := readOf_eq D bs e1 e2 e3 e4 e5 e6 e7 e8 e9 e10 e11 e12 e13
    obtain ⟨T, hT⟩ : ∃ T, readOf D bs = T := ⟨_, rfl⟩
    have E1 : Hid ((r0 bs).get 4 = (T.g, k1, R1)) := hide (by rw [e1, ← hT, hro])
    have E2 : Hid (R1.get 4 = (T.v, k2, R2)) := hide (by rw [e2, ← hT, hro])
    have E3 : Hid (R2.get 1 = (T.m, k3, R3)) := hide (by rw [e3, ← hT, hro])
    have E4 : Hid (R3.get 4 = (T.e, k4, R4)) := hide (by rw [e4, ← hT, hro])
    have E5 : Hid (R4.get 4 = (T.q, k5, R5)) := hide (by rw [e5, ← hT, hro])
    have E6 : Hid (R5.get 4 = (T.d, k6, R6)) := hide (by rw [e6, ← hT, hro])
    have E7 : Hid (R6.get 1 = (T.s, k7, R7)) := hide (by rw [e7, ← hT, hro])
    have E8 : Hid (R7.get 1 = (T.o, k8, R8)) := hide (by rw [e8, ← hT, hro])
    have E9 : Hid (R8.get 4 = (T.l, k9, R9)) := hide (by rw [e9, ← hT, hro])
    have E10 : Hid (R9.get 4 = (T.p, k10, R10)) := hide (by rw [e10, ← hT, hro])
    have E11 : Hid (R10.get 4 = (T.k, k11, R11)) := hide (by rw [e11, ← hT, hro])
    have E12 := hide e12
    have E13 := hide e13
    have HTb : Hid (T.bs = unbits D.y y12 ∧ T.ov = unbits D.y y13 ∧ T.us = usesU R13 D.n) := hide (by rw [← hT, hro]; exact ⟨rfl, rfl, rfl⟩)
    have HRO := hide hT
    clear hro hT e1 e2 e3 e4 e5 e6 e7 e8 e9 e10 e11 e12 e13
    go_wp2_with fail
    refine (rnum_eq p b (r0 bs) R1 4 T.g k1 _ HR0.out E1.out).mono ?_
    rintro e x1 ⟨rfl, hr, hk⟩
    have hsx : Blk x1 s 28 (Rg.cells ⟨0, 0, 0, 0, 0, 0, 0, 0, 0, 0, 0, [], [], []⟩ Sl.zero) := hk.blk HS0.out (by simp; omega)
    have D1 : x1.cell? ⟨s, 0, none⟩ = some (.int .i64 0) := hsx.cell 0
    have G1 := hsx.frozen 0
    have hks : Kept [s] x1 (x1.setCell ⟨s, 0, none⟩ (.int .i64 T.g)) := (Kept.refl [s] x1).set_ (b := s) (.inl (by simp)) 0 _
    have HS1 : Hid (Blk (x1.setCell ⟨s, 0, none⟩ (.int .i64 T.g)) s 28 (Rg.cells ⟨T.g, 0, 0, 0, 0, 0, 0, 0, 0, 0, 0, [], [], []⟩ Sl.zero)) := hide (blk_conv (hsx.set_ 0 (.int .i64 T.g)) (by simp [Rg.cells]))
    have HR1 := hide (hr.kept hks (by simp; exact hpne) (by simp; exact hbne))
    have HKB1 := hide ((HKB.out.trans hk (S' := [p]) (by simp)).trans hks (by simp))
    clear hr hk hsx hks HS0 HR0 HKB c1 f1
    go_wp2_with fail
    refine (rnum_eq p b R1 R2 4 T.v k2 _ HR1.out E2.out).mono ?_
    rintro e x2 ⟨rfl, hr, hk⟩
    have hsx : Blk x2 s 28 (Rg.cells ⟨T.g, 0, 0, 0, 0, 0, 0, 0, 0, 0, 0, [], [], []⟩ Sl.zero) := hk.blk HS1.out (by simp; omega)
    have D2 : x2.cell? ⟨s, 1, none⟩ = some (.int .i64 0) := hsx.cell 1
    have G2 := hsx.frozen 1
    have hks : Kept [s] x2 (x2.setCell ⟨s, 1, none⟩ (.int .i64 T.v)) := (Kept.refl [s] x2).set_ (b := s) (.inl (by simp)) 1 _
    have HS2 : Hid (Blk (x2.setCell ⟨s, 1, none⟩ (.int .i64 T.v)) s 28 (Rg.cells ⟨T.g, T.v, 0, 0, 0, 0, 0, 0, 0, 0, 0, [], [], []⟩ Sl.zero)) := hide (blk_conv (hsx.set_ 1 (.int .i64 T.v)) (by simp [Rg.cells]))
    have HR2 := hide (hr.kept hks (by simp; exact hpne) (by simp; exact hbne))
    have HKB2 := hide ((HKB1.out.trans hk (S' := [p]) (by simp)).trans hks (by simp))
    clear hr hk hsx hks HS1 HR1 HKB1 D1 G1
    go_wp2_with fail
    refine (rnum_eq p b R2 R3 1 T.m k3 _ HR2.out E3.out).mono ?_
    rintro e x3 ⟨rfl, hr, hk⟩
    have hsx : Blk x3 s 28 (Rg.cells ⟨T.g, T.v, 0, 0, 0, 0, 0, 0, 0, 0, 0, [], [], []⟩ Sl.zero) := hk.blk HS2.out (by simp; omega)
    have D3 : x3.cell? ⟨s, 2, none⟩ = some (.int .i64 0) := hsx.cell 2
    have G3 := hsx.frozen 2
    have hks : Kept [s] x3 (x3.setCell ⟨s, 2, none⟩ (.int .i64 T.m)) := (Kept.refl [s] x3).set_ (b := s) (.inl (by simp)) 2 _
    have HS3 : Hid (Blk (x3.setCell ⟨s, 2, none⟩ (.int .i64 T.m)) s 28 (Rg.cells ⟨T.g, T.v, T.m, 0, 0, 0, 0, 0, 0, 0, 0, [], [], []⟩ Sl.zero)) := hide (blk_conv (hsx.set_ 2 (.int .i64 T.m)) (by simp [Rg.cells]))
    have HR3 := hide (hr.kept hks (by simp; exact hpne) (by simp; exact hbne))
    have HKB3 := hide ((HKB2.out.trans hk (S' := [p]) (by simp)).trans hks (by simp))
    clear hr hk hsx hks HS2 HR2 HKB2 D2 G2
    go_wp2_with fail
    refine (rnum_eq p b R3 R4 4 T.e k4 _ HR3.out E4.out).mono ?_
    rintro e x4 ⟨rfl, hr, hk⟩
    have hsx : Blk x4 s 28 (Rg.cells ⟨T.g, T.v, T.m, 0, 0, 0, 0, 0, 0, 0, 0, [], [], []⟩ Sl.zero) := hk.blk HS3.out (by simp; omega)
    have D4 : x4.cell? ⟨s, 3, none⟩ = some (.int .i64 0) := hsx.cell 3
    have G4 := hsx.frozen 3
    have hks : Kept [s] x4 (x4.setCell ⟨s, 3, none⟩ (.int .i64 T.e)) := (Kept.refl [s] x4).set_ (b := s) (.inl (by simp)) 3 _
    have HS4 : Hid (Blk (x4.setCell ⟨s, 3, none⟩ (.int .i64 T.e)) s 28 (Rg.cells ⟨T.g, T.v, T.m, T.e, 0, 0, 0, 0, 0, 0, 0, [], [], []⟩ Sl.zero)) := hide (blk_conv (hsx.set_ 3 (.int .i64 T.e)) (by simp [Rg.cells]))
    have HR4 := hide (hr.kept hks (by simp; exact hpne) (by simp; exact hbne))
    have HKB4 := hide ((HKB3.out.trans hk (S' := [p]) (by simp)).trans hks (by simp))
    clear hr hk hsx hks HS3 HR3 HKB3 D3 G3
    go_wp2_with fail
    refine (rnum_eq p b R4 R5 4 T.q k5 _ HR4.out E5.out).mono ?_
    rintro e x5 ⟨rfl, hr, hk⟩
    have hsx : Blk x5 s 28 (Rg.cells ⟨T.g, T.v, T.m, T.e, 0, 0, 0, 0, 0, 0, 0, [], [], []⟩ Sl.zero) := hk.blk HS4.out (by simp; omega)
    have D5 : x5.cell? ⟨s, 4, none⟩ = some (.int .i64 0) := hsx.cell 4
    have G5 := hsx.frozen 4
    have hks : Kept [s] x5 (x5.setCell ⟨s, 4, none⟩ (.int .i64 T.q)) := (Kept.refl [s] x5).set_ (b := s) (.inl (by simp)) 4 _
    have HS5 : Hid (Blk (x5.setCell ⟨s, 4, none⟩ (.int .i64 T.q)) s 28 (Rg.cells ⟨T.g, T.v, T.m, T.e, T.q, 0, 0, 0, 0, 0, 0, [], [], []⟩ Sl.zero)) := hide (blk_conv (hsx.set_ 4 (.int .i64 T.q)) (by simp [Rg.cells]))
    have HR5 := hide (hr.kept hks (by simp; exact hpne) (by simp; exact hbne))
    have HKB5 := hide ((HKB4.out.trans hk (S' := [p]) (by simp)).trans hks (by simp))
    clear hr hk hsx hks HS4 HR4 HKB4 D4 G4
    go_wp2_with fail
    refine (rnum_eq p b R5 R6 4 T.d k6 _ HR5.out E6.out).mono ?_
    rintro e x6 ⟨rfl, hr, hk⟩
    have hsx : Blk x6 s 28 (Rg.cells ⟨T.g, T.v, T.m, T.e, T.q, 0, 0, 0, 0, 0, 0, [], [], []⟩ Sl.zero) := hk.blk HS5.out (by simp; omega)
    have D6 : x6.cell? ⟨s, 5, none⟩ = some (.int .i64 0) := hsx.cell 5
    have G6 := hsx.frozen 5
    have hks : Kept [s] x6 (x6.setCell ⟨s, 5, none⟩ (.int .i64 T.d)) := (Kept.refl [s] x6).set_ (b := s) (.inl (by simp)) 5 _
    have HS6 : Hid (Blk (x6.setCell ⟨s, 5, none⟩ (.int .i64 T.d)) s 28 (Rg.cells ⟨T.g, T.v, T.m, T.e, T.q, T.d, 0, 0, 0, 0, 0, [], [], []⟩ Sl.zero)) := hide (blk_conv (hsx.set_ 5 (.int .i64 T.d)) (by simp [Rg.cells]))
    have HR6 := hide (hr.kept hks (by simp; exact hpne) (by simp; exact hbne))
    have HKB6 := hide ((HKB5.out.trans hk (S' := [p]) (by simp)).trans hks (by simp))
    clear hr hk hsx hks HS5 HR5 HKB5 D5 G5
    go_wp2_with fail
    refine (rnum_eq p b R6 R7 1 T.s k7 _ HR6.out E7.out).mono ?_
    rintro e x7 ⟨rfl, hr, hk⟩
    have hsx : Blk x7 s 28 (Rg.cells ⟨T.g, T.v, T.m, T.e, T.q, T.d, 0, 0, 0, 0, 0, [], [], []⟩ Sl.zero) := hk.blk HS6.out (by simp; omega)
    have D7 : x7.cell? ⟨s, 6, none⟩ = some (.int .i64 0) := hsx.cell 6
    have G7 := hsx.frozen 6
    have hks : Kept [s] x7 (x7.setCell ⟨s, 6, none⟩ (.int .i64 T.s)) := (Kept.refl [s] x7).set_ (b := s) (.inl (by simp)) 6 _
    have HS7 : Hid (Blk (x7.setCell ⟨s, 6, none⟩ (.int .i64 T.s)) s 28 (Rg.cells ⟨T.g, T.v, T.m, T.e, T.q, T.d, T.s, 0, 0, 0, 0, [], [], []⟩ Sl.zero)) := hide (blk_conv (hsx.set_ 6 (.int .i64 T.s)) (by simp [Rg.cells]))
    have HR7 := hide (hr.kept hks (by simp; exact hpne) (by simp; exact hbne))
    have HKB7 := hide ((HKB6.out.trans hk (S' := [p]) (by simp)).trans hks (by simp))
    clear hr hk hsx hks HS6 HR6 HKB6 D6 G6
    go_wp2_with fail
    refine (rnum_eq p b R7 R8 1 T.o k8 _ HR7.out E8.out).mono ?_
    rintro e x8 ⟨rfl, hr, hk⟩
    have hsx : Blk x8 s 28 (Rg.cells ⟨T.g, T.v, T.m, T.e, T.q, T.d, T.s, 0, 0, 0, 0, [], [], []⟩ Sl.zero) := hk.blk HS7.out (by simp; omega)
    have D8 : x8.cell? ⟨s, 7, none⟩ = some (.int .i64 0) := hsx.cell 7
    have G8 := hsx.frozen 7
    have hks : Kept [s] x8 (x8.setCell ⟨s, 7, none⟩ (.int .i64 T.o)) := (Kept.refl [s] x8).set_ (b := s) (.inl (by simp)) 7 _
    have HS8 : Hid (Blk (x8.setCell ⟨s, 7, none⟩ (.int .i64 T.o)) s 28 (Rg.cells ⟨T.g, T.v, T.m, T.e, T.q, T.d, T.s, T.o, 0, 0, 0, [], [], []⟩ Sl.zero)) := hide (blk_conv (hsx.set_ 7 (.int .i64 T.o)) (by simp [Rg.cells]))
    have HR8 := hide (hr.kept hks (by simp; exact hpne) (by simp; exact hbne))
    have HKB8 := hide ((HKB7.out.trans hk (S' := [p]) (by simp)).trans hks (by simp))
    clear hr hk hsx hks HS7 HR7 HKB7 D7 G7
    go_wp2_with fail
    refine (rnum_eq p b R8 R9 4 T.l k9 _ HR8.out E9.out).mono ?_
    rintro e x9 ⟨rfl, hr, hk⟩
    have hsx : Blk x9 s 28 (Rg.cells ⟨T.g, T.v, T.m, T.e, T.q, T.d, T.s, T.o, 0, 0, 0, [], [], []⟩ Sl.zero) := hk.blk HS8.out (by simp; omega)
    have D9 : x9.cell? ⟨s, 8, none⟩ = some (.int .i64 0) := hsx.cell 8
    have G9 := hsx.frozen 8
    have hks : Kept [s] x9 (x9.setCell ⟨s, 8, none⟩ (.int .i64 T.l)) := (Kept.refl [s] x9).set_ (b := s) (.inl (by simp)) 8 _
    have HS9 : Hid (Blk (x9.setCell ⟨s, 8, none⟩ (.int .i64 T.l)) s 28 (Rg.cells ⟨T.g, T.v, T.m, T.e, T.q, T.d, T.s, T.o, T.l, 0, 0, [], [], []⟩ Sl.zero)) := hide (blk_conv (hsx.set_ 8 (.int .i64 T.l)) (by simp [Rg.cells]))
    have HR9 := hide (hr.kept hks (by simp; exact hpne) (by simp; exact hbne))
    have HKB9 := hide ((HKB8.out.trans hk (S' := [p]) (by simp)).trans hks (by simp))
    clear hr hk hsx hks HS8 HR8 HKB8 D8 G8
    go_wp2_with fail
    refine (rnum_eq p b R9 R10 4 T.p k10 _ HR9.out E10.out).mono ?_
    rintro e x10 ⟨rfl, hr, hk⟩
    have hsx : Blk x10 s 28 (Rg.cells ⟨T.g, T.v, T.m, T.e, T.q, T.d, T.s, T.o, T.l, 0, 0, [], [], []⟩ Sl.zero) := hk.blk HS9.out (by simp; omega)
    have D10 : x10.cell? ⟨s, 9, none⟩ = some (.int .i64 0) := hsx.cell 9
    have G10 := hsx.frozen 9
    have hks : Kept [s] x10 (x10.setCell ⟨s, 9, none⟩ (.int .i64 T.p)) := (Kept.refl [s] x10).set_ (b := s) (.inl (by simp)) 9 _
    have HS10 : Hid (Blk (x10.setCell ⟨s, 9, none⟩ (.int .i64 T.p)) s 28 (Rg.cells ⟨T.g, T.v, T.m, T.e, T.q, T.d, T.s, T.o, T.l, T.p, 0, [], [], []⟩ Sl.zero)) := hide (blk_conv (hsx.set_ 9 (.int .i64 T.p)) (by simp [Rg.cells]))
    have HR10 := hide (hr.kept hks (by simp; exact hpne) (by simp; exact hbne))
    have HKB10 := hide ((HKB9.out.trans hk (S' := [p]) (by simp)).trans hks (by simp))
    clear hr hk hsx hks HS9 HR9 HKB9 D9 G9
    go_wp2_with fail
    refine (rnum_eq p b R10 R11 4 T.k k11 _ HR10.out E11.out).mono ?_
    rintro e x11 ⟨rfl, hr, hk⟩
    have hsx : Blk x11 s 28 (Rg.cells ⟨T.g, T.v, T.m, T.e, T.q, T.d, T.s, T.o, T.l, T.p, 0, [], [], []⟩ Sl.zero) := hk.blk HS10.out (by simp; omega)
    have D11 : x11.cell? ⟨s, 10, none⟩ = some (.int .i64 0) := hsx.cell 10
    have G11 := hsx.frozen 10
    have hks : Kept [s] x11 (x11.setCell ⟨s, 10, none⟩ (.int .i64 T.k)) := (Kept.refl [s] x11).set_ (b := s) (.inl (by simp)) 10 _
    have HS11 : Hid (Blk (x11.setCell ⟨s, 10, none⟩ (.int .i64 T.k)) s 28 (Rg.cells ⟨T.g, T.v, T.m, T.e, T.q, T.d, T.s, T.o, T.l, T.p, T.k, [], [], []⟩ Sl.zero)) := hide (blk_conv (hsx.set_ 10 (.int .i64 T.k)) (by simp [Rg.cells]))
    have HR11 := hide (hr.kept hks (by simp; exact hpne) (by simp; exact hbne))
    have HKB11 := hide ((HKB10.out.trans hk (S' := [p]) (by simp)).trans hks (by simp))
    clear hr hk hsx hks HS10 HR10 HKB10 D10 G10
    have HWPS : Hid (∀ i ∈ [p, s], i ∈ ([] : List Nat) ∨ w.heap.size ≤ i) := hide (by simp; exact ⟨HPW.out, HWS.out⟩)
    have hq0 := HKB11.out.blk HQ4.out (by simp; omega)
    have hg0 := HKB11.out.blk HG4.out (by simp; omega)
    have hsz0 := HKB11.out.size
    go_wp2_with fail
    generalize x11.setCell ⟨s, 10, none⟩ (.int .i64 T.k) = W0 at *
    have HQ0 := hide hq0
    have HG0 := hide hg0
    have hp0 : p < W0.heap.size := by omega
    have hb0 : b < W0.heap.size := by omega
    have HST := hide (show Kept [p, s] W0 W0 ∧ W0.cell? ⟨q, 0, none⟩ = some (.int .i64 D.b) ∧ W0.cell? ⟨q, 1, none⟩ = some (.int .i64 (D.n : Int)) ∧ W0.cell? ⟨q, 2, none⟩ = some (.int .i64 D.z) from ⟨Kept.refl _ _, cfg_cells hq0⟩)
    have hqn : q ∉ [p] := by simp; omega
    have hqn2 : q ∉ [s] := by simp; omega
    clear hq0 hg0 hsz0 D11 G11 hpl hbl
    refine wp_region_noPanic ?_
    refine wp_region_held_drew (S := fun W => Kept [p, s] W0 W ∧ W.cell? ⟨q, 0, none⟩ = some (.int .i64 D.b) ∧ W.cell? ⟨q, 1, none⟩ = some (.int .i64 (D.n : Int)) ∧ W.cell? ⟨q, 2, none⟩ = some (.int .i64 D.z)) (by kernel_rfl) (by exact ⟨HST.out.1.drew, HST.out.2⟩) (fun hHeld => ?_)
    refine wpAnyH_take (i := 0) (oi := ⟨some 62, _, _, _, _, _⟩) (v := ?v1) rfl (by kernel_rfl) (by kernel_rfl) (by kernel_rfl) (fun _ _ _ h => h) (Or.inl ⟨by rfl, ?hy1⟩) (by assumption) ?rest1
    case hy1 => (intro W hSw; (try dsimp only at hSw); go_simp; try with_reducible rfl)
    try simp only [Act.put, List.setIfInBounds_toArray, List.set_cons_zero, List.set_cons_succ]
    refine wpAnyH_take (i := 2) (oi := ⟨some 64, _, _, _, _, _⟩) (v := ?v2) rfl (by kernel_rfl) (by kernel_rfl) (by kernel_rfl) (fun _ _ _ h => h) (Or.inl ⟨by rfl, ?hy2⟩) (by assumption) ?rest2
    case hy2 => (intro W hSw; (try dsimp only at hSw); go_simp; try with_reducible rfl)
    try simp only [Act.put, List.setIfInBounds_toArray, List.set_cons_zero, List.set_cons_succ]
    refine held_one (i := 1) (o := ⟨some 63, _, _, _, _, _⟩) rfl (by kernel_rfl) (by rfl) (fun K hK => ?_)
    go_simp
    refine (rnum_eq p b R11 R12 1 y12 k12 _ (HR11.out.drewN 1) E12.out).mono ?_
    rintro e a1 ⟨rfl, ar, ak1⟩
    refine hK.out _ _ (by exact chold hHeld ak1 (by simp) hqn) (fun hHeld => ?_)
    clear hK K
    try simp only [Act.put, List.setIfInBounds_toArray, List.set_cons_zero, List.set_cons_succ]
    refine held_one (i := 3) (o := ⟨some 65, _, _, _, _, _⟩) rfl (by kernel_rfl) (by rfl) (fun K hK => ?_)
    go_simp
    refine (rpag D HD.out _).mono ?_
    rintro e a2 ⟨rfl, ak2⟩
    refine hK.out _ _ (by exact chold hHeld ak2 (by simp) (by simp)) (fun hHeld => ?_)
    clear hK K
    try simp only [Act.put, List.setIfInBounds_toArray, List.set_cons_zero, List.set_cons_succ]
    refine held_one (i := 4) (o := ⟨some 66, _, _, _, _, _⟩) rfl (by kernel_rfl) (by rfl) (fun K hK => ?_)
    go_simp
    refine (runbits_own D.y y12 _ hy12 hy).mono ?_
    rintro e a3 ⟨av, rfl, ao, ak3⟩
    obtain ⟨Aa, ca, rfl, _⟩ := base.own_slice ao
    refine hK.out _ _ (by exact chold hHeld ak3 (by simp) (by simp)) (fun hHeld => ?_)
    clear hK K
    try simp only [Act.put, List.setIfInBounds_toArray, List.set_cons_zero, List.set_cons_succ]
    refine wpAnyH_take (i := 5) (oi := ⟨some 67, _, _, _, _, _⟩) (v := ?v3) rfl (by kernel_rfl) (by kernel_rfl) (by kernel_rfl) (fun _ _ _ h => h) (Or.inl ⟨by rfl, ?hy3⟩) (by assumption) ?rest3
    case hy3 => (intro W hSw; (try dsimp only at hSw); go_simp; try with_reducible rfl)
    try simp only [Act.put, List.setIfInBounds_toArray, List.set_cons_zero, List.set_cons_succ]
    refine held_one (i := 6) (o := ⟨none, _, _, _, _, _⟩) rfl (by kernel_rfl) (by rfl) (fun K hK => ?_)
    have as3 : Blk a3 s 28 (Rg.cells ⟨T.g, T.v, T.m, T.e, T.q, T.d, T.s, T.o, T.l, T.p, T.k, [], [], []⟩ Sl.zero) := ak3.blk (ak2.blk (ak1.blk (HS11.out.drewN 1) (by simp; omega)) (by simp)) (by simp)
    have Da : a3.cell? ⟨s, 11, none⟩ = some (.slice none 0 0) := as3.cell 11
    have Ga := as3.frozen 11
    go_simp
    have aks : Kept [s] a3 (a3.setCell ⟨s, 11, none⟩ (.slice Aa D.y ca)) := (Kept.refl [s] a3).set_ (b := s) (.inl (by simp)) 11 _
    have aS4 : Blk (a3.setCell ⟨s, 11, none⟩ (.slice Aa D.y ca)) s 28 #[.int .i64 T.g, .int .i64 T.v, .int .i64 T.m, .int .i64 T.e, .int .i64 T.q, .int .i64 T.d, .int .i64 T.s, .int .i64 T.o, .int .i64 T.l, .int .i64 T.p, .int .i64 T.k, .slice Aa D.y ca, .slice none 0 0, .slice none 0 0] := blk_conv (as3.set_ 11 (.slice Aa D.y ca)) (by simp [Rg.cells, Sl.zero])
    generalize a3.setCell ⟨s, 11, none⟩ (.slice Aa D.y ca) = W1 at aks aS4 ⊢
    refine hK.out _ _ (by exact chold hHeld aks (by simp) hqn2) (fun hHeld => ?_)
    clear hK K
    try simp only [Act.put, List.setIfInBounds_toArray, List.set_cons_zero, List.set_cons_succ]
    refine wpAnyH_done (by kernel_rfl) ?_ _
    refine NoPanic.normal ?_
    have HRA := hide ((((ar.kept ak2 (by simp) (by simp)).kept ak3 (by simp) (by simp)).kept aks (by simp; exact hpne) (by simp; exact hbne)))
    have HSA := hide aS4
    have ha3 : W0.heap.size ≤ a3.heap.size := by
      have h1 := ak1.size
      have h2 := ak2.size
      have h3 := ak3.size
      simp at h1
      omega
    have HOA := hide (own_low (own_keep ao aks (fun i hi hm => by
      simp at hi
      subst hi
      have := (own_blk ao _ hm).1
      have h1 := ak1.size
      have h2 := ak2.size
      simp at h1
      have := HS11.out.lt
      omega)) (b' := W0.heap.size) (by
      have h1 := ak1.size
      have h2 := ak2.size
      simp at h1
      omega))
    have hbA := own_blk ao
    have hks4 := aks.size
    have HSU := hide (show Kept [p, s] W1 W1 ∧ W1.cell? ⟨q, 0, none⟩ = some (.int .i64 D.b) ∧ W1.cell? ⟨q, 1, none⟩ = some (.int .i64 (D.n : Int)) ∧ W1.cell? ⟨q, 2, none⟩ = some (.int .i64 D.z) from ⟨Kept.refl _ _, hHeld.2⟩)
    have HKW1 := hide hHeld.1
    have HOB : Hid (∀ i ∈ (Value.slice Aa D.y ca).ownBlock.toList, i < W1.heap.size) := hide (fun i hi => by have := (hbA i hi).2.1; omega)
    clear ar ak1 ak2 ak3 aks aS4 ao as3 Da Ga hHeld hbA hks4 HST ha3
    go_wp2_with fail
    refine wp_region_noPanic ?_
    refine wp_region_held_drew (S := fun W => Kept [p, s] W1 W ∧ W.cell? ⟨q, 0, none⟩ = some (.int .i64 D.b) ∧ W.cell? ⟨q, 1, none⟩ = some (.int .i64 (D.n : Int)) ∧ W.cell? ⟨q, 2, none⟩ = some (.int .i64 D.z)) (by kernel_rfl) (by exact ⟨HSU.out.1.drew, HSU.out.2⟩) (fun hHeld => ?_)
    refine wpAnyH_take (i := 0) (oi := ⟨some 68, _, _, _, _, _⟩) (v := ?v4) rfl (by kernel_rfl) (by kernel_rfl) (by kernel_rfl) (fun _ _ _ h => h) (Or.inl ⟨by rfl, ?hy4⟩) (by assumption) ?rest4
    case hy4 => (intro W hSw; (try dsimp only at hSw); go_simp; try with_reducible rfl)
    try simp only [Act.put, List.setIfInBounds_toArray, List.set_cons_zero, List.set_cons_succ]
    refine wpAnyH_take (i := 2) (oi := ⟨some 70, _, _, _, _, _⟩) (v := ?v5) rfl (by kernel_rfl) (by kernel_rfl) (by kernel_rfl) (fun _ _ _ h => h) (Or.inl ⟨by rfl, ?hy5⟩) (by assumption) ?rest5
    case hy5 => (intro W hSw; (try dsimp only at hSw); go_simp; try with_reducible rfl)
    try simp only [Act.put, List.setIfInBounds_toArray, List.set_cons_zero, List.set_cons_succ]
    refine held_one (i := 1) (o := ⟨some 69, _, _, _, _, _⟩) rfl (by kernel_rfl) (by rfl) (fun K hK => ?_)
    go_simp
    refine (rnum_eq p b R12 R13 1 y13 k13 _ (HRA.out.drewN 1) E13.out).mono ?_
    rintro e b1 ⟨rfl, br, bk1⟩
    refine hK.out _ _ (by exact chold hHeld bk1 (by simp) hqn) (fun hHeld => ?_)
    clear hK K
    try simp only [Act.put, List.setIfInBounds_toArray, List.set_cons_zero, List.set_cons_succ]
    refine held_one (i := 3) (o := ⟨some 71, _, _, _, _, _⟩) rfl (by kernel_rfl) (by rfl) (fun K hK => ?_)
    go_simp
    refine (rpag D HD.out _).mono ?_
    rintro e b2 ⟨rfl, bk2⟩
    refine hK.out _ _ (by exact chold hHeld bk2 (by simp) (by simp)) (fun hHeld => ?_)
    clear hK K
    try simp only [Act.put, List.setIfInBounds_toArray, List.set_cons_zero, List.set_cons_succ]
    refine held_one (i := 4) (o := ⟨some 72, _, _, _, _, _⟩) rfl (by kernel_rfl) (by rfl) (fun K hK => ?_)
    go_simp
    refine (runbits_own D.y y13 _ hy13 hy).mono ?_
    rintro e b3 ⟨bv, rfl, bo, bk3⟩
    obtain ⟨Ab, cb, rfl, _⟩ := base.own_slice bo
    refine hK.out _ _ (by exact chold hHeld bk3 (by simp) (by simp)) (fun hHeld => ?_)
    clear hK K
    try simp only [Act.put, List.setIfInBounds_toArray, List.set_cons_zero, List.set_cons_succ]
    refine wpAnyH_take (i := 5) (oi := ⟨some 73, _, _, _, _, _⟩) (v := ?v6) rfl (by kernel_rfl) (by kernel_rfl) (by kernel_rfl) (fun _ _ _ h => h) (Or.inl ⟨by rfl, ?hy6⟩) (by assumption) ?rest6
    case hy6 => (intro W hSw; (try dsimp only at hSw); go_simp; try with_reducible rfl)
    try simp only [Act.put, List.setIfInBounds_toArray, List.set_cons_zero, List.set_cons_succ]
    refine held_one (i := 6) (o := ⟨none, _, _, _, _, _⟩) rfl (by kernel_rfl) (by rfl) (fun K hK => ?_)
    have bs3 : Blk b3 s 28 #[.int .i64 T.g, .int .i64 T.v, .int .i64 T.m, .int .i64 T.e, .int .i64 T.q, .int .i64 T.d, .int .i64 T.s, .int .i64 T.o, .int .i64 T.l, .int .i64 T.p, .int .i64 T.k, .slice Aa D.y ca, .slice none 0 0, .slice none 0 0] := bk3.blk (bk2.blk (bk1.blk (HSA.out.drewN 1) (by simp; omega)) (by simp)) (by simp)
    have Db : b3.cell? ⟨s, 12, none⟩ = some (.slice none 0 0) := bs3.cell 12
    have Gb := bs3.frozen 12
    go_simp
    have bks : Kept [s] b3 (b3.setCell ⟨s, 12, none⟩ (.slice Ab D.y cb)) := (Kept.refl [s] b3).set_ (b := s) (.inl (by simp)) 12 _
    have bS4 : Blk (b3.setCell ⟨s, 12, none⟩ (.slice Ab D.y cb)) s 28 #[.int .i64 T.g, .int .i64 T.v, .int .i64 T.m, .int .i64 T.e, .int .i64 T.q, .int .i64 T.d, .int .i64 T.s, .int .i64 T.o, .int .i64 T.l, .int .i64 T.p, .int .i64 T.k, .slice Aa D.y ca, .slice Ab D.y cb, .slice none 0 0] := blk_conv (bs3.set_ 12 (.slice Ab D.y cb)) (by simp [Rg.cells, Sl.zero])
    generalize b3.setCell ⟨s, 12, none⟩ (.slice Ab D.y cb) = W2 at bks bS4 ⊢
    refine hK.out _ _ (by exact chold hHeld bks (by simp) hqn2) (fun hHeld => ?_)
    clear hK K
    try simp only [Act.put, List.setIfInBounds_toArray, List.set_cons_zero, List.set_cons_succ]
    refine wpAnyH_done (by kernel_rfl) ?_ _
    refine NoPanic.normal ?_
    have hsz1 := HKW1.out.size
    have h1s : W1.heap.size ≤ b2.heap.size := by
      have h1 := bk1.size
      have h2 := bk2.size
      simp at h1
      omega
    have HRB := hide ((((br.kept bk2 (by simp) (by simp)).kept bk3 (by simp) (by simp)).kept bks (by simp; exact hpne) (by simp; exact hbne)))
    have hbB := own_blk bo
    have hkA : Kept [p] W1 b3 := (((Kept.refl [p] W1).drewN 1).trans bk1 (by simp)).trans (bk2.trans bk3 (by simp)) (by simp)
    have hoA := HOA.out
    have hiA := own_blk hoA
    have hoA3 := own_keep hoA hkA (fun i hi hm => by
      simp at hi
      subst hi
      have := (hiA _ hm).1
      omega)
    have hoA4 := own_keep hoA3 bks (fun i hi hm => by
      simp at hi
      subst hi
      have := (hiA _ hm).1
      have := HSA.out.lt
      omega)
    have hoB4 := own_low (own_keep bo bks (fun i hi hm => by
      simp at hi
      subst hi
      have := (hbB _ hm).1
      have := HSA.out.lt
      omega)) (b' := W0.heap.size) (by omega)
    have HKW2 := hide (HKW1.out.trans hHeld.1 (fun i hi => .inl hi))
    have HQL := hide (HKW2.out.blk HQ0.out (by simp; omega))
    obtain ⟨h1, h2, h3⟩ := HTb.out
    have HML : Hid (MR W2 w g s W0.heap.size { T with us := usesU R13 0 } (.slice Aa D.y ca) (.slice Ab D.y cb) (.slice none 0 0)) := hide ⟨bS4, by
        dsimp only
        rw [h1, unbits_len]
        exact hoA4, by
        dsimp only
        rw [h2, unbits_len]
        exact hoB4, World.ownsRow_nil _ _ _ _, fun i hi hm => by
        have := HOB.out i hi
        have := (hbB i hm).1
        omega, HKW2.out.blk HG0.out (by simp; omega), ((HK4.out.trans HKB11.out (HWPS.out)).trans HKW2.out (HWPS.out)), HKW2.out.size⟩
    have HVL := hide (HV4.out)
    clear h1 h2 h3 br bk1 bk2 bk3 bks bS4 bo bs3 Db Gb hHeld hbB hkA hoA hiA hoA3 hoA4 hoB4 HSU HKW1 HOA HOB HSA HRA HS11 HR11 hsz1 h1s
    obtain ⟨m, hm⟩ : ∃ m, D.n = m := ⟨_, rfl⟩
    obtain ⟨Bz, hBz⟩ : ∃ Bz, W0.heap.size = Bz := ⟨_, rfl⟩
    rw [hBz] at HML hp0 hb0
    have HM := hide hm
    have hsB : s < Bz := by omega
    rw [hm] at hn32
    have HQL2 := HQL
    rw [hm] at HQL
    clear hm hBz
    go_wp2
    go_loopw [8] (fun i wr => ∃ (j : Nat) (z : Value), j ≤ m ∧ i = .int .i64 j ∧ Hid (RefAt wr p b (rowU R13 j)) ∧ Hid (MR wr w g s Bz { T with us := usesU R13 j } (.slice Aa D.y ca) (.slice Ab D.y cb) z) ∧ Hid (Blk wr q 31 #[.int .i64 D.b, .int .i64 (m : Int), .int .i64 D.z])) (fun i wr => m - (intOf i).toNat)
    case atStart => exact ⟨0, _, by omega, rfl, HRB, HML, HQL⟩
    case round =>
      obtain ⟨j, z, hj, rfl, HRr, HMr, HQr⟩ := hrel
      clear HRB HML HQL
      obtain ⟨d0, d1, d2⟩ := cfg_cells HQr.out
      by_cases hlt : j < m
      · obtain ⟨sv, ks, Ra, es⟩ : ∃ y k R', (rowU R13 j).get 1 = (y, k, R') := ⟨_, _, _, rfl⟩
        obtain ⟨tv, kt, Rb, et⟩ : ∃ y k R', Ra.get 4 = (y, k, R') := ⟨_, _, _, rfl⟩
        have hnx : rowU R13 (j + 1) = Rb := by
          show (((rowU R13 j).get 1).2.2.get 4).2.2 = Rb
          rw [es, et]
        have hux : usesU R13 (j + 1) = usesU R13 j ++ [⟨sv, tv⟩] := by
          rw [usesU_succ]
          unfold useU
          rw [es, et]
        have HNX := hide hnx
        have HUX := hide hux
        have Es := hide es
        have Et := hide et
        clear hnx hux es et
        obtain ⟨A2, cc, rfl, _⟩ := own_read HMr.out.us
        dsimp only at HMr
        rw [usesU_len] at HMr
        have hlti : (j : Int) < (m : Int) := by omega
        have HPS : Hid (∀ i ∈ [p], i < Bz ∧ i ≠ g ∧ i ≠ s ∧ w.heap.size ≤ i) := hide (by have := HPW.out; simp; omega)
        go_wp2_with fail
        refine (rnum_eq p b (rowU R13 j) Ra 1 sv ks _ HRr.out Es.out).mono ?_
        rintro e wb ⟨rfl, hr, hk⟩
        have HRb := hide hr
        have HMb := hide (HMr.out.kept_ HPS.out hk)
        have HQb := hide (hk.blk HQr.out hqn)
        have c13 : (World.drew wb).cell? ⟨s, 13, none⟩ = some (.slice A2 j cc) := HMb.out.c.2.2
        clear hr hk HRr HMr HQr d0 d1 d2
        go_wp2_with fail
        refine wp_region_noPanic ?_
        refine wp_region_held_drew (S := fun _ => True) (by kernel_rfl) (by trivial) (fun hHeld => ?_)
        refine wpAnyH_take (i := 0) (oi := ⟨some 82, _, _, _, _, _⟩) (v := ?v7) rfl (by kernel_rfl) (by kernel_rfl) (by kernel_rfl) (fun _ _ _ h => h) (Or.inl ⟨by rfl, ?hy7⟩) (by trivial) ?rest7
        case hy7 => (intro W hSw; go_simp; try with_reducible rfl)
        try simp only [Act.put, List.setIfInBounds_toArray, List.set_cons_zero, List.set_cons_succ]
        refine wpAnyH_take (i := 2) (oi := ⟨some 84, _, _, _, _, _⟩) (v := ?v8) rfl (by kernel_rfl) (by kernel_rfl) (by kernel_rfl) (fun _ _ _ h => h) (Or.inl ⟨by rfl, ?hy8⟩) (by trivial) ?rest8
        case hy8 => (intro W hSw; go_simp; try with_reducible rfl)
        try simp only [Act.put, List.setIfInBounds_toArray, List.set_cons_zero, List.set_cons_succ]
        refine wpAnyH_take (i := 3) (oi := ⟨some 85, _, _, _, _, _⟩) (v := ?v9) rfl (by kernel_rfl) (by kernel_rfl) (by kernel_rfl) (fun _ _ _ h => h) (Or.inl ⟨by rfl, ?hy9⟩) (by trivial) ?rest9
        case hy9 => (intro W hSw; go_simp; try with_reducible rfl)
        try simp only [Act.put, List.setIfInBounds_toArray, List.set_cons_zero, List.set_cons_succ]
        refine next_two (i := 1) (j := 4) (o := ⟨some 83, _, _, _, _, _⟩) (o' := ⟨some 86, _, _, _, _, _⟩) (by kernel_rfl) rfl (by rfl) rfl (by rfl) (fun K hK => ?_) (fun K hK => ?_)
        · go_simp
          refine hK _ _ trivial ?_
          clear hK K
          try simp only [Act.put, List.setIfInBounds_toArray, List.set_cons_zero, List.set_cons_succ]
          refine held_one (i := 4) (o := ⟨some 86, _, _, _, _, _⟩) rfl (by kernel_rfl) (by rfl) (fun K hK => ?_)
          go_simp
          refine (rnum_eq p b Ra Rb 4 tv kt _ (HRb.out.drewN 1) Et.out).mono ?_
          rintro e x5 ⟨rfl, hr5, hk5⟩
          have hkd : Kept [p] wb x5 := ((Kept.refl [p] wb).drewN 1).trans hk5 (by simp)
          have hM5 := HMb.out.kept_ HPS.out hkd
          have c13w := hM5.c.2.2
          have c13x : (x5.alloc (.cells #[.int .i64 sv, .int .i64 tv] 79)).cell? ⟨s, 13, none⟩ = some (.slice A2 j cc) := ((Kept.refl [] x5).alloc _).cell c13w (by simp)
          have hO5 : x5.ownsRow Bz 79 2 (.slice A2 j cc) j (usVals (usesU R13 j)) := by have h := hM5.us; dsimp only at h; rw [usesU_len] at h; exact h
          refine hK.out _ _ (by trivial) (fun hHeld => ?_)
          clear hK K
          try simp only [Act.put, List.setIfInBounds_toArray, List.set_cons_zero, List.set_cons_succ]
          refine wpAnyH_take (i := 5) (oi := ⟨some 87, _, _, _, _, _⟩) (v := ?v10) rfl (by kernel_rfl) (by kernel_rfl) (by kernel_rfl) (fun _ _ _ h => h) (Or.inl ⟨by rfl, ?hy10⟩) (by trivial) ?rest10
          case hy10 => (intro W hSw; go_simp; try with_reducible rfl)
          try simp only [Act.put, List.setIfInBounds_toArray, List.set_cons_zero, List.set_cons_succ]
          refine held_one (i := 6) (o := ⟨some 88, _, _, _, _, _⟩) rfl (by kernel_rfl) (by rfl) (fun K hK => ?_)
          go_simp
          refine hK.out _ _ (by trivial) (fun hHeld => ?_)
          clear hK K
          try simp only [Act.put, List.setIfInBounds_toArray, List.set_cons_zero, List.set_cons_succ]
          refine held_one (i := 7) (o := ⟨some 89, _, _, _, _, _⟩) rfl (by kernel_rfl) (by rfl) (fun K hK => ?_)
          refine wp_append_vals (o := ⟨some 89, _, _, _, _, _⟩) (.tmp 83) (.tmp 88) 26 rfl Bz 79 Us.zero.val 2 16 Try.underlying26 use_info rfl (by omega) (.slice A2 j cc) j (usVals (usesU R13 j)) (by go_simp) (own_keep hO5 ((Kept.refl [] x5).alloc _) (by simp)) [] _ 1 1 (Us.vals ⟨sv, tv⟩) (by go_simp) rfl (Vals.new _ [] _ _ (by simp)) (oneCell_Us ⟨sv, tv⟩) (by simp only [maxLen]; omega) (by omega) (by have := hM5.size; simp; omega) ?_
          intro v1 w10 hown1 hkz hat1
          have hiz := own_blk hO5
          have hS10 := hkz.blk ((hM5.kept_ (S := []) (by simp) ((Kept.refl [] x5).alloc (.cells #[.int .i64 sv, .int .i64 tv] 79))).rec_) (fun hm => by have := (hiz s hm).1; omega)
          have y4 := hS10.cell 13
          have y5 := hS10.frozen 13
          obtain ⟨A3, c3, rfl, _⟩ := own_read hown1
          refine hK.out _ _ (by trivial) (fun hHeld => ?_)
          clear hK K
          try simp only [Act.put, List.setIfInBounds_toArray, List.set_cons_zero, List.set_cons_succ]
          refine wpAnyH_take (i := 8) (oi := ⟨some 90, _, _, _, _, _⟩) (v := ?v11) rfl (by kernel_rfl) (by kernel_rfl) (by kernel_rfl) (fun _ _ _ h => h) (Or.inl ⟨by rfl, ?hy11⟩) (by trivial) ?rest11
          case hy11 => (intro W hSw; go_simp; try with_reducible rfl)
          try simp only [Act.put, List.setIfInBounds_toArray, List.set_cons_zero, List.set_cons_succ]
          refine held_one (i := 9) (o := ⟨none, _, _, _, _, _⟩) rfl (by kernel_rfl) (by rfl) (fun K hK => ?_)
          go_simp
          refine hK.out _ _ (by trivial) (fun hHeld => ?_)
          clear hK K
          try simp only [Act.put, List.setIfInBounds_toArray, List.set_cons_zero, List.set_cons_succ]
          refine wpAnyH_done (by kernel_rfl) ?_ _
          refine NoPanic.normal ?_
          clear c13x
          have hMX := hM5.app_us (by omega) (by omega) hsB HWS.out ((Kept.refl [] x5).alloc (.cells #[.int .i64 sv, .int .i64 tv] 79)) ⟨sv, tv⟩ (by dsimp only; rw [usesU_len]; exact hown1) hkz hat1
          have HMX : Hid (MR (w10.setCell ⟨s, 13, none⟩ (.slice A3 (j + 1) c3)) w g s Bz { T with us := usesU R13 (j + 1) } (.slice Aa D.y ca) (.slice Ab D.y cb) (.slice A3 (j + 1) c3)) := hide (by rw [HUX.out]; exact hMX)
          have hkx : Kept [p] wb (x5.alloc (.cells #[.int .i64 sv, .int .i64 tv] 79)) := hkd.alloc _
          have hks9 : Kept [s] w10 (w10.setCell ⟨s, 13, none⟩ (.slice A3 (j + 1) c3)) := (Kept.refl [s] w10).set_ (b := s) (.inl (by simp)) 13 _
          have HRX : Hid (RefAt (w10.setCell ⟨s, 13, none⟩ (.slice A3 (j + 1) c3)) p b (rowU R13 (j + 1))) := hide (by
            rw [HNX.out]
            exact (((hr5.kept ((Kept.refl [] x5).alloc _) (by simp) (by simp)).kept hkz (fun hm => by have := (hiz p hm).1; omega) (fun hm => by have := (hiz b hm).1; omega)).kept hks9 (by simp; exact hpne) (by simp; exact hbne)))
          have HQX := hide (hks9.blk (hkz.blk (hkx.blk HQb.out hqn) (fun hm => by have := (hiz q hm).1; omega)) hqn2)
          clear hMX hkx hks9 hkd hM5 hO5 c13w hown1 hkz hat1 hiz hS10 y4 y5 hr5 hk5 hHeld c13
          go_wp2
          go_roundw
          case rel => exact ⟨j + 1, _, by omega, by go_num, HRX, HMX, HQX⟩
          case measure => simp [intOf]; omega
        · go_simp
          refine (rnum_eq p b Ra Rb 4 tv kt _ (HRb.out.drewN 1) Et.out).mono ?_
          rintro e x5 ⟨rfl, hr5, hk5⟩
          have hkd : Kept [p] wb x5 := ((Kept.refl [p] wb).drewN 1).trans hk5 (by simp)
          have hM5 := HMb.out.kept_ HPS.out hkd
          have c13w := hM5.c.2.2
          have c13x : (x5.alloc (.cells #[.int .i64 sv, .int .i64 tv] 79)).cell? ⟨s, 13, none⟩ = some (.slice A2 j cc) := ((Kept.refl [] x5).alloc _).cell c13w (by simp)
          have hO5 : x5.ownsRow Bz 79 2 (.slice A2 j cc) j (usVals (usesU R13 j)) := by have h := hM5.us; dsimp only at h; rw [usesU_len] at h; exact h
          refine hK _ _ trivial ?_
          clear hK K
          try simp only [Act.put, List.setIfInBounds_toArray, List.set_cons_zero, List.set_cons_succ]
          refine wpAnyH_take (i := 5) (oi := ⟨some 87, _, _, _, _, _⟩) (v := ?v12) rfl (by kernel_rfl) (by kernel_rfl) (by kernel_rfl) (fun _ _ _ h => h) (Or.inl ⟨by rfl, ?hy12⟩) (by trivial) ?rest12
          case hy12 => (intro W hSw; go_simp; try with_reducible rfl)
          try simp only [Act.put, List.setIfInBounds_toArray, List.set_cons_zero, List.set_cons_succ]
          refine next_two (i := 1) (j := 6) (o := ⟨some 83, _, _, _, _, _⟩) (o' := ⟨some 88, _, _, _, _, _⟩) (by kernel_rfl) rfl (by rfl) rfl (by rfl) (fun K hK => ?_) (fun K hK => ?_)
          · go_simp
            refine hK _ _ trivial ?_
            clear hK K
            try simp only [Act.put, List.setIfInBounds_toArray, List.set_cons_zero, List.set_cons_succ]
            refine held_one (i := 6) (o := ⟨some 88, _, _, _, _, _⟩) rfl (by kernel_rfl) (by rfl) (fun K hK => ?_)
            go_simp
            refine hK.out _ _ (by trivial) (fun hHeld => ?_)
            clear hK K
            try simp only [Act.put, List.setIfInBounds_toArray, List.set_cons_zero, List.set_cons_succ]
            refine held_one (i := 7) (o := ⟨some 89, _, _, _, _, _⟩) rfl (by kernel_rfl) (by rfl) (fun K hK => ?_)
            refine wp_append_vals (o := ⟨some 89, _, _, _, _, _⟩) (.tmp 83) (.tmp 88) 26 rfl Bz 79 Us.zero.val 2 16 Try.underlying26 use_info rfl (by omega) (.slice A2 j cc) j (usVals (usesU R13 j)) (by go_simp) (own_keep hO5 ((Kept.refl [] x5).alloc _) (by simp)) [] _ 1 1 (Us.vals ⟨sv, tv⟩) (by go_simp) rfl (Vals.new _ [] _ _ (by simp)) (oneCell_Us ⟨sv, tv⟩) (by simp only [maxLen]; omega) (by omega) (by have := hM5.size; simp; omega) ?_
            intro v1 w10 hown1 hkz hat1
            have hiz := own_blk hO5
            have hS10 := hkz.blk ((hM5.kept_ (S := []) (by simp) ((Kept.refl [] x5).alloc (.cells #[.int .i64 sv, .int .i64 tv] 79))).rec_) (fun hm => by have := (hiz s hm).1; omega)
            have y4 := hS10.cell 13
            have y5 := hS10.frozen 13
            obtain ⟨A3, c3, rfl, _⟩ := own_read hown1
            refine hK.out _ _ (by trivial) (fun hHeld => ?_)
            clear hK K
            try simp only [Act.put, List.setIfInBounds_toArray, List.set_cons_zero, List.set_cons_succ]
            refine wpAnyH_take (i := 8) (oi := ⟨some 90, _, _, _, _, _⟩) (v := ?v13) rfl (by kernel_rfl) (by kernel_rfl) (by kernel_rfl) (fun _ _ _ h => h) (Or.inl ⟨by rfl, ?hy13⟩) (by trivial) ?rest13
            case hy13 => (intro W hSw; go_simp; try with_reducible rfl)
            try simp only [Act.put, List.setIfInBounds_toArray, List.set_cons_zero, List.set_cons_succ]
            refine held_one (i := 9) (o := ⟨none, _, _, _, _, _⟩) rfl (by kernel_rfl) (by rfl) (fun K hK => ?_)
            go_simp
            refine hK.out _ _ (by trivial) (fun hHeld => ?_)
            clear hK K
            try simp only [Act.put, List.setIfInBounds_toArray, List.set_cons_zero, List.set_cons_succ]
            refine wpAnyH_done (by kernel_rfl) ?_ _
            refine NoPanic.normal ?_
            clear c13x
            have hMX := hM5.app_us (by omega) (by omega) hsB HWS.out ((Kept.refl [] x5).alloc (.cells #[.int .i64 sv, .int .i64 tv] 79)) ⟨sv, tv⟩ (by dsimp only; rw [usesU_len]; exact hown1) hkz hat1
            have HMX : Hid (MR (w10.setCell ⟨s, 13, none⟩ (.slice A3 (j + 1) c3)) w g s Bz { T with us := usesU R13 (j + 1) } (.slice Aa D.y ca) (.slice Ab D.y cb) (.slice A3 (j + 1) c3)) := hide (by rw [HUX.out]; exact hMX)
            have hkx : Kept [p] wb (x5.alloc (.cells #[.int .i64 sv, .int .i64 tv] 79)) := hkd.alloc _
            have hks9 : Kept [s] w10 (w10.setCell ⟨s, 13, none⟩ (.slice A3 (j + 1) c3)) := (Kept.refl [s] w10).set_ (b := s) (.inl (by simp)) 13 _
            have HRX : Hid (RefAt (w10.setCell ⟨s, 13, none⟩ (.slice A3 (j + 1) c3)) p b (rowU R13 (j + 1))) := hide (by
              rw [HNX.out]
              exact (((hr5.kept ((Kept.refl [] x5).alloc _) (by simp) (by simp)).kept hkz (fun hm => by have := (hiz p hm).1; omega) (fun hm => by have := (hiz b hm).1; omega)).kept hks9 (by simp; exact hpne) (by simp; exact hbne)))
            have HQX := hide (hks9.blk (hkz.blk (hkx.blk HQb.out hqn) (fun hm => by have := (hiz q hm).1; omega)) hqn2)
            clear hMX hkx hks9 hkd hM5 hO5 c13w hown1 hkz hat1 hiz hS10 y4 y5 hr5 hk5 hHeld c13
            go_wp2
            go_roundw
            case rel => exact ⟨j + 1, _, by omega, by go_num, HRX, HMX, HQX⟩
            case measure => simp [intOf]; omega
          · go_simp
            refine hK _ _ trivial ?_
            clear hK K
            try simp only [Act.put, List.setIfInBounds_toArray, List.set_cons_zero, List.set_cons_succ]
            refine held_one (i := 1) (o := ⟨some 83, _, _, _, _, _⟩) rfl (by kernel_rfl) (by rfl) (fun K hK => ?_)
            go_simp
            refine hK.out _ _ (by trivial) (fun hHeld => ?_)
            clear hK K
            try simp only [Act.put, List.setIfInBounds_toArray, List.set_cons_zero, List.set_cons_succ]
            refine held_one (i := 7) (o := ⟨some 89, _, _, _, _, _⟩) rfl (by kernel_rfl) (by rfl) (fun K hK => ?_)
            refine wp_append_vals (o := ⟨some 89, _, _, _, _, _⟩) (.tmp 83) (.tmp 88) 26 rfl Bz 79 Us.zero.val 2 16 Try.underlying26 use_info rfl (by omega) (.slice A2 j cc) j (usVals (usesU R13 j)) (by go_simp) (own_keep hO5 ((Kept.refl [] x5).alloc _) (by simp)) [] _ 1 1 (Us.vals ⟨sv, tv⟩) (by go_simp) rfl (Vals.new _ [] _ _ (by simp)) (oneCell_Us ⟨sv, tv⟩) (by simp only [maxLen]; omega) (by omega) (by have := hM5.size; simp; omega) ?_
            intro v1 w10 hown1 hkz hat1
            have hiz := own_blk hO5
            have hS10 := hkz.blk ((hM5.kept_ (S := []) (by simp) ((Kept.refl [] x5).alloc (.cells #[.int .i64 sv, .int .i64 tv] 79))).rec_) (fun hm => by have := (hiz s hm).1; omega)
            have y4 := hS10.cell 13
            have y5 := hS10.frozen 13
            obtain ⟨A3, c3, rfl, _⟩ := own_read hown1
            refine hK.out _ _ (by trivial) (fun hHeld => ?_)
            clear hK K
            try simp only [Act.put, List.setIfInBounds_toArray, List.set_cons_zero, List.set_cons_succ]
            refine wpAnyH_take (i := 8) (oi := ⟨some 90, _, _, _, _, _⟩) (v := ?v14) rfl (by kernel_rfl) (by kernel_rfl) (by kernel_rfl) (fun _ _ _ h => h) (Or.inl ⟨by rfl, ?hy14⟩) (by trivial) ?rest14
            case hy14 => (intro W hSw; go_simp; try with_reducible rfl)
            try simp only [Act.put, List.setIfInBounds_toArray, List.set_cons_zero, List.set_cons_succ]
            refine held_one (i := 9) (o := ⟨none, _, _, _, _, _⟩) rfl (by kernel_rfl) (by rfl) (fun K hK => ?_)
            go_simp
            refine hK.out _ _ (by trivial) (fun hHeld => ?_)
            clear hK K
            try simp only [Act.put, List.setIfInBounds_toArray, List.set_cons_zero, List.set_cons_succ]
            refine wpAnyH_done (by kernel_rfl) ?_ _
            refine NoPanic.normal ?_
            clear c13x
            have hMX := hM5.app_us (by omega) (by omega) hsB HWS.out ((Kept.refl [] x5).alloc (.cells #[.int .i64 sv, .int .i64 tv] 79)) ⟨sv, tv⟩ (by dsimp only; rw [usesU_len]; exact hown1) hkz hat1
            have HMX : Hid (MR (w10.setCell ⟨s, 13, none⟩ (.slice A3 (j + 1) c3)) w g s Bz { T with us := usesU R13 (j + 1) } (.slice Aa D.y ca) (.slice Ab D.y cb) (.slice A3 (j + 1) c3)) := hide (by rw [HUX.out]; exact hMX)
            have hkx : Kept [p] wb (x5.alloc (.cells #[.int .i64 sv, .int .i64 tv] 79)) := hkd.alloc _
            have hks9 : Kept [s] w10 (w10.setCell ⟨s, 13, none⟩ (.slice A3 (j + 1) c3)) := (Kept.refl [s] w10).set_ (b := s) (.inl (by simp)) 13 _
            have HRX : Hid (RefAt (w10.setCell ⟨s, 13, none⟩ (.slice A3 (j + 1) c3)) p b (rowU R13 (j + 1))) := hide (by
              rw [HNX.out]
              exact (((hr5.kept ((Kept.refl [] x5).alloc _) (by simp) (by simp)).kept hkz (fun hm => by have := (hiz p hm).1; omega) (fun hm => by have := (hiz b hm).1; omega)).kept hks9 (by simp; exact hpne) (by simp; exact hbne)))
            have HQX := hide (hks9.blk (hkz.blk (hkx.blk HQb.out hqn) (fun hm => by have := (hiz q hm).1; omega)) hqn2)
            clear hMX hkx hks9 hkd hM5 hO5 c13w hown1 hkz hat1 hiz hS10 y4 y5 hr5 hk5 hHeld c13
            go_wp2
            go_roundw
            case rel => exact ⟨j + 1, _, by omega, by go_num, HRX, HMX, HQX⟩
            case measure => simp [intOf]; omega
      · obtain rfl : j = m := by omega
        have hTT : ({ T with us := usesU R13 j } : Rg) = T := by
          rw [← HM.out, ← HTb.out.2.2]
        rw [hTT] at HMr
        clear hTT
        obtain ⟨X, ea, eo, eu, la, lo, lu, hRD⟩ := HMr.out.read
        have hXs : X.small := by
          have h1 := HTb.out
          refine ⟨?_, ?_, ?_⟩
          · rw [la, h1.1, unbits_len]; omega
          · rw [lo, h1.2.1, unbits_len]; omega
          · rw [lu, h1.2.2, usesU_len, HM.out]; omega
        have hrec : Blk wr s 28 (T.cells X) := by
          have h := HMr.out.rec_
          rw [ea, eo, eu] at h
          exact h
        have HI0 := hide (hRD [] (by simp))
        have HIN := hide (fun (S : List Nat) (hS : ∀ i ∈ S, i < w.heap.size) => hRD (g :: S) (fun i hi => by
          simp only [List.mem_cons] at hi
          rcases hi with rfl | hi
          · exact .inl (by omega)
          · have := hS i hi
            have := HWS.out
            exact .inl (by omega)))
        have HSr := hide hrec
        have HGr := hide HMr.out.zero
        have HKr := hide HMr.out.kept
        have hVr := HV4.out
        obtain ⟨c0, c1, c2, c3, c4, c5, c6, c7, c8, c9, c10, c11, c12, c13⟩ := cell14 hrec
        clear hRD hrec la lo lu
        have hda : ∀ w' : World, Kept [] w w' → Vals w' [] A (bs.map B) := fun w' k => (HVW.out).kept k (by simp)
        have HDA := hide hda
        clear hda hVr ea eo eu
        go_wp2_with fail
        rw [← HM.out]
        refine (rbytes_any D HD.out T X _ HI0.out hXs).mono ?_
        rintro e w6 ⟨A3, n3, cz, rfl, hn3, hnb, hk⟩
        have HG6 := hide (hk.blk HGr.out (by simp))
        have HS6 := hide (hk.blk HSr.out (by simp))
        have HK6 := hide (HKr.out.trans hk (by simp))
        have HV6 := hide (HDA.out _ HK6.out)
        have HIN6 := hide (fun (S : List Nat) (hS : ∀ i ∈ S, i < w.heap.size) => (HIN.out S hS).kept hk (by simp))
        have HN6 := hide hnb
        clear hk hnb c0 c1 c2 c3 c4 c5 c6 c7 c8 c9 c10 c11 c12 c13 d0 d1 d2 HIN HI0 HDA HGr HSr HKr
        have hd : decode D bs = if T.may D = true ∧ T.bytes D = bs then (T, 0) else (Rg.zero, 2) := by unfold decode; rw [HRO.out]
        have hTlen : T.may D = true → (T.bytes D).length = n := fun hm => by rw [Rg.bytes_len HD.out ((T.may_iff D).1 hm), HN.out]
        have HTL := hide hTlen
        obtain ⟨d0, d1, d2, d3, d4, d5, d6, d7, d8, d9, d10, d11, d12, d13⟩ := cell14 HG6.out
        simp only [Rg.zero, Sl.zero] at d0 d1 d2 d3 d4 d5 d6 d7 d8 d9 d10 d11 d12 d13
        have f0 := HG6.out.frozen 0
        have f1 := HG6.out.frozen 1
        have f2 := HG6.out.frozen 2
        have f3 := HG6.out.frozen 3
        have f4 := HG6.out.frozen 4
        have f5 := HG6.out.frozen 5
        have f6 := HG6.out.frozen 6
        have f7 := HG6.out.frozen 7
        have f8 := HG6.out.frozen 8
        have f9 := HG6.out.frozen 9
        have f10 := HG6.out.frozen 10
        have f11 := HG6.out.frozen 11
        have f12 := HG6.out.frozen 12
        have f13 := HG6.out.frozen 13
        have hze := put14_eq w6 g Rg.zero Sl.zero
        simp only [Rg.zero, Sl.zero] at hze
        have HZE : Hid (_ = put14 w6 g Rg.zero Sl.zero) := hide hze
        have hbz := hide (put14_at Rg.zero Sl.zero HG6.out)
        have hkz := hide (put14_kept (S := []) Rg.zero Sl.zero HK6.out (g := g) (.inr HWG.out))
        clear hze hTlen
        by_cases hm : T.may D = true
        · have e1 : encode D T = (T.bytes D, 0) := if_pos hm
          rw [e1] at HN6 hn3 ⊢
          have HNN := hide hn3
          have hn3n : n3 ≤ 65536 := by have := HTL.out hm; rw [hn3]; show (T.bytes D).length ≤ 65536; omega
          by_cases hqe : T.bytes D = bs
          · rw [if_pos ⟨hm, hqe⟩] at hd
            have HDD := hide hd
            clear hd e1 hn3 hbz hkz HZE
            go_wp2_with fail
            refine (requal_any A3 A n3 n cz c (T.bytes D) bs _ HNN.out.symm HL.out HN6.out HV6.out (by omega)).mono ?_
            rintro e w7 ⟨rfl, hk⟩
            rw [decide_eq_true hqe]
            have HG7 := hide (hk.blk HG6.out (by simp))
            have HK7 := hide (HK6.out.trans hk (by simp))
            have HIN7 := hide (fun (S : List Nat) (hS : ∀ i ∈ S, i < w.heap.size) => (HIN6.out S hS).kept hk (by simp))
            obtain ⟨c0, c1, c2, c3, c4, c5, c6, c7, c8, c9, c10, c11, c12, c13⟩ := cell14 (hk.blk HS6.out (by simp))
            clear hk f0 f1 f2 f3 f4 f5 f6 f7 f8 f9 f10 f11 f12 f13 d0 d1 d2 d3 d4 d5 d6 d7 d8 d9 d10 d11 d12 d13
            obtain ⟨d0, d1, d2, d3, d4, d5, d6, d7, d8, d9, d10, d11, d12, d13⟩ := cell14 HG7.out
            simp only [Rg.zero, Sl.zero] at d0 d1 d2 d3 d4 d5 d6 d7 d8 d9 d10 d11 d12 d13
            have f0 := HG7.out.frozen 0
            have f1 := HG7.out.frozen 1
            have f2 := HG7.out.frozen 2
            have f3 := HG7.out.frozen 3
            have f4 := HG7.out.frozen 4
            have f5 := HG7.out.frozen 5
            have f6 := HG7.out.frozen 6
            have f7 := HG7.out.frozen 7
            have f8 := HG7.out.frozen 8
            have f9 := HG7.out.frozen 9
            have f10 := HG7.out.frozen 10
            have f11 := HG7.out.frozen 11
            have f12 := HG7.out.frozen 12
            have f13 := HG7.out.frozen 13
            have HPE := hide (put14_eq w7 g T X)
            have hbw := hide (put14_at T X HG7.out)
            have hkw := hide (put14_kept (S := []) T X HK7.out (g := g) (.inr HWG.out))
            have hkg := hide (put14_kept (S := [g]) T X (Kept.refl [g] w7) (g := g) (.inl (by simp)))
            go_wp2
            rw [HPE.out]
            generalize put14 w7 g T X = W at hbw hkw hkg ⊢
            obtain ⟨t0, t1, t2, t3, t4, t5, t6, t7, t8, t9, t10, t11, t12, t13⟩ := cell14 hbw.out
            refine bodyPost_ret (v := .tuple #[T.val X, .int .i64 0]) ?_ rfl ⟨X, by rw [HDD.out], hXs, fun S hS => ?_, hkw.out⟩
            · simp [results, Try.results15, go_sem, t0, t1, t2, t3, t4, t5, t6, t7, t8, t9, t10, t11, t12, t13, Rg.val]
            · rw [HDD.out]
              exact ((HIN7.out S (by first | exact hS | (rw [hq]; exact hS))).kept hkg.out (by simp)).less (fun i hi => by simp [hi])
          · rw [if_neg (fun h => hqe h.2)] at hd
            have HDD := hide hd
            clear hd e1 hn3 hbz hkz HZE
            go_wp2_with fail
            refine (requal_any A3 A n3 n cz c (T.bytes D) bs _ HNN.out.symm HL.out HN6.out HV6.out (by omega)).mono ?_
            rintro e w7 ⟨rfl, hk⟩
            rw [decide_eq_false hqe]
            have HG7 := hide (hk.blk HG6.out (by simp))
            have HK7 := hide (HK6.out.trans hk (by simp))
            clear hk f0 f1 f2 f3 f4 f5 f6 f7 f8 f9 f10 f11 f12 f13 d0 d1 d2 d3 d4 d5 d6 d7 d8 d9 d10 d11 d12 d13
            obtain ⟨d0, d1, d2, d3, d4, d5, d6, d7, d8, d9, d10, d11, d12, d13⟩ := cell14 HG7.out
            simp only [Rg.zero, Sl.zero] at d0 d1 d2 d3 d4 d5 d6 d7 d8 d9 d10 d11 d12 d13
            have f0 := HG7.out.frozen 0
            have f1 := HG7.out.frozen 1
            have f2 := HG7.out.frozen 2
            have f3 := HG7.out.frozen 3
            have f4 := HG7.out.frozen 4
            have f5 := HG7.out.frozen 5
            have f6 := HG7.out.frozen 6
            have f7 := HG7.out.frozen 7
            have f8 := HG7.out.frozen 8
            have f9 := HG7.out.frozen 9
            have f10 := HG7.out.frozen 10
            have f11 := HG7.out.frozen 11
            have f12 := HG7.out.frozen 12
            have f13 := HG7.out.frozen 13
            have hze := put14_eq w7 g Rg.zero Sl.zero
            simp only [Rg.zero, Sl.zero] at hze
            have HZE : Hid (_ = put14 w7 g Rg.zero Sl.zero) := hide hze
            have hbz := hide (put14_at Rg.zero Sl.zero HG7.out)
            have hkz := hide (put14_kept (S := []) Rg.zero Sl.zero HK7.out (g := g) (.inr HWG.out))
            clear hze
            go_wp2
            rw [HZE.out]
            generalize put14 w7 g Rg.zero Sl.zero = W at hbz hkz ⊢
            obtain ⟨t0, t1, t2, t3, t4, t5, t6, t7, t8, t9, t10, t11, t12, t13⟩ := cell14 hbz.out
            simp only [Rg.zero, Sl.zero] at t0 t1 t2 t3 t4 t5 t6 t7 t8 t9 t10 t11 t12 t13
            refine bodyPost_ret (v := .tuple #[Rg.zero.val Sl.zero, .int .i64 2]) ?_ rfl ⟨Sl.zero, by rw [HDD.out], ⟨by decide, by decide, by decide⟩, fun S hS => ?_, hkz.out⟩
            · simp [results, Try.results15, go_sem, t0, t1, t2, t3, t4, t5, t6, t7, t8, t9, t10, t11, t12, t13, Rg.val, Rg.zero, Sl.zero]
            · rw [HDD.out]
              exact RgIn.zero _ _
        · have e1 : encode D T = ([], 1) := if_neg hm
          rw [e1] at HN6 hn3 ⊢
          rw [if_neg (fun h => hm h.1)] at hd
          have HDD := hide hd
          clear hd e1 hn3
          go_wp2
          rw [HZE.out]
          generalize put14 w6 g Rg.zero Sl.zero = W at hbz hkz ⊢
          obtain ⟨t0, t1, t2, t3, t4, t5, t6, t7, t8, t9, t10, t11, t12, t13⟩ := cell14 hbz.out
          simp only [Rg.zero, Sl.zero] at t0 t1 t2 t3 t4 t5 t6 t7 t8 t9 t10 t11 t12 t13
          refine bodyPost_ret (v := .tuple #[Rg.zero.val Sl.zero, .int .i64 2]) ?_ rfl ⟨Sl.zero, by rw [HDD.out], ⟨by decide, by decide, by decide⟩, fun S hS => ?_, hkz.out⟩
          · simp [results, Try.results15, go_sem, t0, t1, t2, t3, t4, t5, t6, t7, t8, t9, t10, t11, t12, t13, Rg.val, Rg.zero, Sl.zero]
          · rw [HDD.out]
            exact RgIn.zero _ _
  · have hf := (Bool.not_eq_true _).mp hst
    have HDD := hide (decode_starts HD.out bs (by rw [HN.out]; exact hf))
    rw [hf]
    clear hst hf
    obtain ⟨c0, c1, c2, c3, c4, c5, c6, c7, c8, c9, c10, c11, c12, c13⟩ := cell14 HS2.out
    simp only [Rg.zero, Sl.zero] at c0 c1 c2 c3 c4 c5 c6 c7 c8 c9 c10 c11 c12 c13
    obtain ⟨d0, d1, d2, d3, d4, d5, d6, d7, d8, d9, d10, d11, d12, d13⟩ := cell14 HG2.out
    simp only [Rg.zero, Sl.zero] at d0 d1 d2 d3 d4 d5 d6 d7 d8 d9 d10 d11 d12 d13
    have f0 := HG2.out.frozen 0
    have f1 := HG2.out.frozen 1
    have f2 := HG2.out.frozen 2
    have f3 := HG2.out.frozen 3
    have f4 := HG2.out.frozen 4
    have f5 := HG2.out.frozen 5
    have f6 := HG2.out.frozen 6
    have f7 := HG2.out.frozen 7
    have f8 := HG2.out.frozen 8
    have f9 := HG2.out.frozen 9
    have f10 := HG2.out.frozen 10
    have f11 := HG2.out.frozen 11
    have f12 := HG2.out.frozen 12
    have f13 := HG2.out.frozen 13
    have hze := put14_eq w2 g Rg.zero Sl.zero
    simp only [Rg.zero, Sl.zero] at hze
    have HZE : Hid (_ = put14 w2 g Rg.zero Sl.zero) := hide hze
    have hbz := hide (put14_at Rg.zero Sl.zero HG2.out)
    have hkz := hide (put14_kept (S := []) Rg.zero Sl.zero HK2.out (g := g) (.inr HWG.out))
    clear hze
    go_wp2
    rw [HZE.out]
    generalize put14 w2 g Rg.zero Sl.zero = W at hbz hkz ⊢
    obtain ⟨t0, t1, t2, t3, t4, t5, t6, t7, t8, t9, t10, t11, t12, t13⟩ := cell14 hbz.out
    simp only [Rg.zero, Sl.zero] at t0 t1 t2 t3 t4 t5 t6 t7 t8 t9 t10 t11 t12 t13
    refine bodyPost_ret (v := .tuple #[Rg.zero.val Sl.zero, .int .i64 2]) ?_ rfl ⟨Sl.zero, by rw [HDD.out], ⟨by decide, by decide, by decide⟩, fun S hS => ?_, hkz.out⟩
    · simp [results, Try.results15, go_sem, t0, t1, t2, t3, t4, t5, t6, t7, t8, t9, t10, t11, t12, t13, Rg.val, Rg.zero, Sl.zero]
    · rw [HDD.out]
      exact RgIn.zero _ _
end Go.Proofs.Ythacnlpdodlggaa.rg
