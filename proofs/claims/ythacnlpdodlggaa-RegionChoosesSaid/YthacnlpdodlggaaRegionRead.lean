/- Package region: get, readAt, read. (Written by tools/genrgread.py.) -/
import Derived.Test.YthacnlpdodlggaaRegionBits
import Derived.Test.YthacnlpdodlggaaRegionMem
import Derived.Test.YthacnlpdodlggaaFillCore
import Derived.Test.YthacnlpdodlggaaHeld
namespace Go.Proofs.Ythacnlpdodlggaa.rg
set_option linter.unusedSimpArgs false
open Go.RowKit Go.Proofs.Ythacnlpdodlggaa.mem Go.Proofs.Ythacnlpdodlggaa.base Go.Proofs.Ythacnlpdodlggaa.row Go.Proofs.Ythacnlpdodlggaa.rowBack Go.Proofs.Ythacnlpdodlggaa.fill Go.Proofs.Ythacnlpdodlggaa.crc Go.Proofs.Ythacnlpdodlggaa.crcMath
open Go.Proofs.Ythacnlpdodlggaa.super (r0 take2 get_bd1)

/-- A block of uses. -/
def UBlk (w : World) (g : Nat) (l : List Us) : Prop := Blk w g 79 (usVals l).toArray
theorem made_uses (m : Nat) : madeCells #[.int .i64 0, .int .i64 0] (m * 2) = (usVals (List.replicate m Us.zero)).toArray := by
  have h0 : ∀ n : Nat, n < 2 → ([.int .i64 0, .int .i64 0] : List Value)[n]?.getD default = .int .i64 0 := by
    intro n hn
    match n, hn with
    | 0, _ => rfl
    | 1, _ => rfl
  have hv : usVals (List.replicate m Us.zero) = List.replicate (m * 2) (.int .i64 0) := by
    induction m with
    | zero => rfl
    | succ m ih => rw [List.replicate_succ, show (m + 1) * 2 = m * 2 + 1 + 1 by omega, List.replicate_succ, List.replicate_succ, ← ih]; rfl
  rw [hv]
  apply Array.ext
  · simp [madeCells]
  · intro i h1 h2
    simp [madeCells, h0 (i % 2) (Nat.mod_lt _ (by omega))]
theorem UBlk.at_ {w : World} {g : Nat} {l : List Us} (h : UBlk w g l) {k : Nat} {i : Us} (hk : l[k]? = some i) : UsAt w ⟨g, k * 2, none⟩ i := by
  have e : ∀ t, t < 2 → w.cell? ⟨g, k * 2 + t, none⟩ = i.vals[t]? := fun t ht => by
    rw [Blk.cell h, List.getElem?_toArray, Nat.mul_comm k 2, usVals_at l k i hk t ht]
  exact ⟨e 0 (by omega), e 1 (by omega)⟩
theorem usVals_set (l : List Us) (k : Nat) (i : Us) (hk : k < l.length) : ((usVals l).set (k * 2) (.int .i64 i.s)).set (k * 2 + 1) (.int .i64 i.t) = usVals (l.set k i) := by
  have e : l = l.take k ++ ([l[k]] ++ l.drop (k + 1)) := by simp
  have e2 : l.set k i = l.take k ++ ([i] ++ l.drop (k + 1)) := by rw [List.set_eq_take_append_cons_drop, if_pos hk]; rfl
  have hl : (usVals (l.take k)).length = k * 2 := by rw [usVals_len, List.length_take]; omega
  rw [e2]
  conv => lhs; rw [e]
  generalize l[k] = z
  rw [usVals_append, usVals_append, usVals_append, usVals_append]
  have hs : ∀ (x : List Value) (t : Nat) (v : Value), (usVals (l.take k) ++ x).set (k * 2 + t) v = usVals (l.take k) ++ x.set t v := fun x t v => by
    rw [List.set_append, hl, if_neg (by omega), Nat.add_sub_cancel_left]
  have hs0 := fun x v => hs x 0 v
  simp only [Nat.add_zero] at hs0
  rw [hs0, hs]
  rfl
theorem UBlk.put_at {w : World} {g : Nat} {l : List Us} {k : Nat} (i : Us) (h : UBlk w g l) (hk : k < l.length) :
    UBlk ((w.setCell ⟨g, k * 2, none⟩ (.int .i64 i.s)).setCell ⟨g, k * 2 + 1, none⟩ (.int .i64 i.t)) g (l.set k i) := by
  have h1 := (Blk.set_ h (k * 2) (.int .i64 i.s)).set_ (k * 2 + 1) (.int .i64 i.t)
  unfold UBlk
  rw [← usVals_set l k i hk]
  simpa using h1
theorem UBlk.uses {w : World} {S : List Nat} {g : Nat} {l : List Us} (h : UBlk w g l) (hg : g ∉ S) : Uses w S (some ⟨g, 0, none⟩) l :=
  Vals.blk 0 h hg (fun i v hv => by rw [Nat.zero_add, List.getElem?_toArray]; exact hv)
theorem set_use (l : List Us) (k m : Nat) (i : Us) (hl : l.length = k) (hk : k < m) : (l ++ List.replicate (m - k) Us.zero).set k i = (l ++ [i]) ++ List.replicate (m - (k + 1)) Us.zero := by
  rw [List.set_append, hl, if_neg (by omega), Nat.sub_self, show m - k = (m - (k + 1)) + 1 by omega, List.replicate_succ, List.set_cons_zero]
  simp
theorem use_info : (Try.prog.info? 79).map (fun i => (i.zero, i.size, i.bytes)) = some (some Us.zero.val, 2, 16) := by kernel_rfl
theorem run_make_uses (m : Nat) (hm : m ≤ 32) (w : World) :
    (Instr.makeSlice 26 (.int .i64 (m : Int)) (.int .i64 (m : Int))).run Try.prog w = .ok (.slice (some ⟨w.heap.size, 0, none⟩) m m) (w.alloc (.cells (usVals (List.replicate m Us.zero)).toArray 79)) := by
  obtain ⟨i, hi, hzz⟩ := Option.map_eq_some_iff.1 use_info
  simp only [Prod.mk.injEq] at hzz
  obtain ⟨hz, hs, hb⟩ := hzz
  have hr := run_make (P := Try.prog) w 26 79 i _ Try.underlying26 hi hz .i64 .i64 m m (by omega) (Int.le_refl _) (by rw [hb]; omega) (by omega)
  rw [hs, Int.toNat_natCast] at hr
  rw [← made_uses]
  exact hr

theorem rgget_any (p b cap : Nat) (A : Option Addr) (R R' : Row) (x y : Int) (k : Bool) (w : World) (h : RowAt w p b cap A R) (hR : R.get x = (y, k, R')) :
    Calls Try.prog 76 #[.pointer (some ⟨p, 0, none⟩), .int .i64 x] w fun e w' => e = .returned (.int .i64 y) ∧ RowAt w' p b cap A R' ∧ Kept [p] w w' := by
  have H := hide h
  have HRR := hide hR
  clear h hR
  go_enter Try.func76, Try.ntmps76
  go_wp2_with fail
  refine (row.get_at p b cap A R x _ H.out).mono ?_
  rintro e w1 ⟨rfl, hr, hk⟩
  rw [HRR.out] at hr ⊢
  have HR := hide hr
  have HK := hide hk
  clear hr hk
  go_wp2
  go_ret
  exact ⟨rfl, HR.out, HK.out⟩
def posVal (s o l p k : Int) : Value := .agg #[.int .i64 s, .int .i64 o, .int .i64 l, .int .i64 p, .int .i64 k]

set_option maxRecDepth 100000 in
set_option maxHeartbeats 1000000 in
theorem readAt_any (p b cap : Nat) (A : Option Addr) (R0 R1 R2 R3 R4 R5 : Row) (y1 y2 y3 y4 y5 : Int) (k1 k2 k3 k4 k5 : Bool) (w : World) (h : RowAt w p b cap A R0) (hb : b < w.heap.size)
    (e1 : R0.get 1 = (y1, k1, R1)) (e2 : R1.get 1 = (y2, k2, R2)) (e3 : R2.get 4 = (y3, k3, R3)) (e4 : R3.get 4 = (y4, k4, R4)) (e5 : R4.get 4 = (y5, k5, R5)) :
    Calls Try.prog 77 #[.pointer (some ⟨p, 0, none⟩)] w fun e w' => e = .returned (posVal y1 y2 y3 y4 y5) ∧ RowAt w' p b cap A R5 ∧ Kept [p] w w' := by
  have E1 := hide e1
  have E2 := hide e2
  have E3 := hide e3
  have E4 := hide e4
  have E5 := hide e5
  have hk0 := (Kept.refl [p] w).alloc (.cells #[.int .i64 0, .int .i64 0, .int .i64 0, .int .i64 0, .int .i64 0] 24)
  have hb0 := Blk.new w 24 #[.int .i64 0, .int .i64 0, .int .i64 0, .int .i64 0, .int .i64 0]
  have hp := h.lt
  have hr0 := h.kept (S := []) ((Kept.refl [] w).alloc (.cells #[.int .i64 0, .int .i64 0, .int .i64 0, .int .i64 0, .int .i64 0] 24)) (by simp) (by simp)
  obtain ⟨g, hg⟩ : ∃ g, w.heap.size = g := ⟨_, rfl⟩
  have HG := hide (Nat.le_of_eq hg)
  have hgp : g ≠ p := by omega
  have hgb : g ≠ b := by omega
  rw [hg] at hb0
  have HB0 := hide hb0
  have HR0 := hide hr0
  have HK0 := hide hk0
  clear e1 e2 e3 e4 e5 hk0 hb0 hr0 h hp hb
  go_enter Try.func77, Try.ntmps77
  go_wp2_with fail
  refine (rgget_any p b cap A R0 R1 1 y1 k1 _ HR0.out E1.out).mono ?_
  rintro e w1 ⟨rfl, hr, hk⟩
  have HR1 := hide hr
  have HB1 := hide (hk.blk HB0.out (by simp; exact hgp))
  have HK1 := hide (HK0.out.trans hk (fun i hi => .inl hi))
  clear hr hk HR0 HB0 HK0
  go_wp2_with fail
  refine (rgget_any p b cap A R1 R2 1 y2 k2 _ HR1.out E2.out).mono ?_
  rintro e w2 ⟨rfl, hr, hk⟩
  have HR2 := hide hr
  have HB2 := hide (hk.blk HB1.out (by simp; exact hgp))
  have HK2 := hide (HK1.out.trans hk (fun i hi => .inl hi))
  clear hr hk HR1 HB1 HK1
  go_wp2_with fail
  refine (rgget_any p b cap A R2 R3 4 y3 k3 _ HR2.out E3.out).mono ?_
  rintro e w3 ⟨rfl, hr, hk⟩
  have HR3 := hide hr
  have HB3 := hide (hk.blk HB2.out (by simp; exact hgp))
  have HK3 := hide (HK2.out.trans hk (fun i hi => .inl hi))
  clear hr hk HR2 HB2 HK2
  go_wp2_with fail
  refine (rgget_any p b cap A R3 R4 4 y4 k4 _ HR3.out E4.out).mono ?_
  rintro e w4 ⟨rfl, hr, hk⟩
  have HR4 := hide hr
  have HB4 := hide (hk.blk HB3.out (by simp; exact hgp))
  have HK4 := hide (HK3.out.trans hk (fun i hi => .inl hi))
  clear hr hk HR3 HB3 HK3
  go_wp2_with fail
  refine (rgget_any p b cap A R4 R5 4 y5 k5 _ HR4.out E5.out).mono ?_
  rintro e w5 ⟨rfl, hr, hk⟩
  have HR5 := hide hr
  have HB5 := hide (hk.blk HB4.out (by simp; exact hgp))
  have HK5 := hide (HK4.out.trans hk (fun i hi => .inl hi))
  clear hr hk HR4 HB4 HK4
  have f0 := HB5.out.frozen 0
  have f1 := HB5.out.frozen 1
  have f2 := HB5.out.frozen 2
  have f3 := HB5.out.frozen 3
  have f4 := HB5.out.frozen 4
  have d0 := HB5.out.cell 0
  have d1 := HB5.out.cell 1
  have d2 := HB5.out.cell 2
  have d3 := HB5.out.cell 3
  have d4 := HB5.out.cell 4
  have hbw : Blk (((((w5.setCell ⟨g, 0, none⟩ (.int .i64 y1)).setCell ⟨g, 1, none⟩ (.int .i64 y2)).setCell ⟨g, 2, none⟩ (.int .i64 y3)).setCell ⟨g, 3, none⟩ (.int .i64 y4)).setCell ⟨g, 4, none⟩ (.int .i64 y5)) g 24 #[.int .i64 y1, .int .i64 y2, .int .i64 y3, .int .i64 y4, .int .i64 y5] := ((((HB5.out.set_ 0 _).set_ 1 _).set_ 2 _).set_ 3 _).set_ 4 _
  have hkg : Kept [g] w5 (((((w5.setCell ⟨g, 0, none⟩ (.int .i64 y1)).setCell ⟨g, 1, none⟩ (.int .i64 y2)).setCell ⟨g, 2, none⟩ (.int .i64 y3)).setCell ⟨g, 3, none⟩ (.int .i64 y4)).setCell ⟨g, 4, none⟩ (.int .i64 y5)) := (((((Kept.refl [g] w5).set_ (b := g) (.inl (by simp)) 0 _).set_ (b := g) (.inl (by simp)) 1 _).set_ (b := g) (.inl (by simp)) 2 _).set_ (b := g) (.inl (by simp)) 3 _).set_ (b := g) (.inl (by simp)) 4 _
  have HRW := hide (HR5.out.kept hkg (by simp; exact Ne.symm hgp) (by simp; exact Ne.symm hgb))
  have HKW := hide (HK5.out.trans hkg (by simp; exact .inr HG.out))
  have HBW := hide hbw
  clear hbw hkg
  go_wp2
  generalize (((((w5.setCell ⟨g, 0, none⟩ (.int .i64 y1)).setCell ⟨g, 1, none⟩ (.int .i64 y2)).setCell ⟨g, 2, none⟩ (.int .i64 y3)).setCell ⟨g, 3, none⟩ (.int .i64 y4)).setCell ⟨g, 4, none⟩ (.int .i64 y5)) = W at HBW HKW HRW ⊢
  have t0 := HBW.out.cell 0
  have t1 := HBW.out.cell 1
  have t2 := HBW.out.cell 2
  have t3 := HBW.out.cell 3
  have t4 := HBW.out.cell 4
  refine bodyPost_ret (v := posVal y1 y2 y3 y4 y5) ?_ rfl ⟨rfl, HRW.out, HKW.out⟩
  simp at t0 t1 t2 t3 t4
  simp [results, Try.results77, go_sem, t0, t1, t2, t3, t4, posVal]

theorem readOf_eq (D : Dv) (bs : List UInt8) {y1 y2 y3 y4 y5 y6 y7 y8 y9 y10 y11 y12 y13 : Int} {k1 k2 k3 k4 k5 k6 k7 k8 k9 k10 k11 k12 k13 : Bool} {R1 R2 R3 R4 R5 R6 R7 R8 R9 R10 R11 R12 R13 : Row}
    (e1 : (r0 bs).get 4 = (y1, k1, R1)) (e2 : R1.get 4 = (y2, k2, R2)) (e3 : R2.get 1 = (y3, k3, R3)) (e4 : R3.get 4 = (y4, k4, R4)) (e5 : R4.get 4 = (y5, k5, R5)) (e6 : R5.get 4 = (y6, k6, R6)) (e7 : R6.get 1 = (y7, k7, R7)) (e8 : R7.get 1 = (y8, k8, R8)) (e9 : R8.get 4 = (y9, k9, R9)) (e10 : R9.get 4 = (y10, k10, R10)) (e11 : R10.get 4 = (y11, k11, R11)) (e12 : R11.get 1 = (y12, k12, R12)) (e13 : R12.get 1 = (y13, k13, R13)) :
    readOf D bs = ⟨y1, y2, y3, y4, y5, y6, y7, y8, y9, y10, y11, unbits D.y y12, unbits D.y y13, usesU R13 D.n⟩ ∧ (0 ≤ y12 ∧ y12 < 256) ∧ (0 ≤ y13 ∧ y13 < 256) := by
  refine ⟨?_, ?_, ?_⟩
  · have c4 : ∀ R : Row, R.get ((4 : Nat) : Int) = R.get 4 := fun _ => rfl
    have c1 : ∀ R : Row, R.get ((1 : Nat) : Int) = R.get 1 := fun _ => rfl
    simp only [readOf, rgOf, wid, gets, c4, c1, e1, e2, e3, e4, e5, e6, e7, e8, e9, e10, e11, e12, e13, List.getD_cons_zero, List.getD_cons_succ]
  · have := get_bd1 R11
    rw [e12] at this
    exact this
  · have := get_bd1 R12
    rw [e13] at this
    exact this

theorem rdheld {w0 W W' : World} {p g q : Nat} {v : Value} (hgp : q ≠ p) (hgq : q ≠ g) (h : Kept [p, g] w0 W ∧ W.cell? ⟨q, 13, none⟩ = some v) (hk : Kept [p, g] W W') : Kept [p, g] w0 W' ∧ W'.cell? ⟨q, 13, none⟩ = some v :=
  ⟨h.1.trans hk (fun i hi => .inl hi), hk.cell h.2 (by simp; exact ⟨hgp, hgq⟩)⟩

set_option maxRecDepth 100000 in
set_option maxHeartbeats 2000000 in
theorem read_far (G : Nat) (D : Dv) (A : Option Addr) (n c : Nat) (bs : List UInt8) (w : World) (hG : GD w G D) (hv : Vals w [] A (bs.map B)) (hl : bs.length = n) (hA : A = none → c = 0) (hn : n ≤ 65536) :
    Calls Try.prog 47 #[.pointer (some ⟨G, 0, none⟩), .slice A n c] w fun e w' => ∃ X, e = .returned ((readOf D bs).val X) ∧ X.small ∧ (∀ S : List Nat, (∀ i ∈ S, i < w.heap.size) → RgIn w' S X (readOf D bs)) ∧ Kept [] w w' := by
  have HA := hide hA
  have HL := hide hl
  have hd := hG.dv
  have hbd := hd.bd
  have hy : 1 ≤ D.y ∧ D.y ≤ 5 := ⟨hbd.2.2.1, hbd.2.2.2.1⟩
  have hn32 := hd.hn.2
  have hk0 := (Kept.refl [] w).alloc (.cells (Rg.zero.cells Sl.zero) 28)
  have hb0 := Blk.new w 28 (Rg.zero.cells Sl.zero)
  have hlt := hb0.lt
  obtain ⟨g, hg⟩ : ∃ g, w.heap.size = g := ⟨_, rfl⟩
  have HGW := hide (Nat.le_of_eq hg)
  rw [hg] at hb0 hlt
  have HG0 := hide (hG.kept hk0)
  have HV0 := hide (hv.kept hk0 (by simp))
  have HB0 := hide hb0
  have HK0 := hide hk0
  obtain ⟨y1, k1, R1, e1⟩ : ∃ y k R', (r0 bs).get 4 = (y, k, R') := ⟨_, _, _, rfl⟩
  obtain ⟨y2, k2, R2, e2⟩ : ∃ y k R', R1.get 4 = (y, k, R') := ⟨_, _, _, rfl⟩
  obtain ⟨y3, k3, R3, e3⟩ : ∃ y k R', R2.get 1 = (y, k, R') := ⟨_, _, _, rfl⟩
  obtain ⟨y4, k4, R4, e4⟩ : ∃ y k R', R3.get 4 = (y, k, R') := ⟨_, _, _, rfl⟩
  obtain ⟨y5, k5, R5, e5⟩ : ∃ y k R', R4.get 4 = (y, k, R') := ⟨_, _, _, rfl⟩
  obtain ⟨y6, k6, R6, e6⟩ : ∃ y k R', R5.get 4 = (y, k, R') := ⟨_, _, _, rfl⟩
  obtain ⟨y7, k7, R7, e7⟩ : ∃ y k R', R6.get 1 = (y, k, R') := ⟨_, _, _, rfl⟩
  obtain ⟨y8, k8, R8, e8⟩ : ∃ y k R', R7.get 1 = (y, k, R') := ⟨_, _, _, rfl⟩
  obtain ⟨y9, k9, R9, e9⟩ : ∃ y k R', R8.get 4 = (y, k, R') := ⟨_, _, _, rfl⟩
  obtain ⟨y10, k10, R10, e10⟩ : ∃ y k R', R9.get 4 = (y, k, R') := ⟨_, _, _, rfl⟩
  obtain ⟨y11, k11, R11, e11⟩ : ∃ y k R', R10.get 4 = (y, k, R') := ⟨_, _, _, rfl⟩
  obtain ⟨y12, k12, R12, e12⟩ : ∃ y k R', R11.get 1 = (y, k, R') := ⟨_, _, _, rfl⟩
  obtain ⟨y13, k13, R13, e13⟩ : ∃ y k R', R12.get 1 = (y, k, R') := ⟨_, _, _, rfl⟩
  obtain ⟨hro, hy12, hy13⟩ := readOf_eq D bs e1 e2 e3 e4 e5 e6 e7 e8 e9 e10 e11 e12 e13
  obtain ⟨T, hT⟩ : ∃ T, readOf D bs = T := ⟨_, rfl⟩
  have E1 : Hid ((r0 bs).get 4 = (T.g, k1, R1)) := hide (by rw [e1, ← hT, hro])
  have E2 : Hid (R1.get 4 = (T.v, k2, R2)) := hide (by rw [e2, ← hT, hro])
  have E3 : Hid (R2.get 1 = (T.m, k3, R3)) := hide (by rw [e3, ← hT, hro])
  have E4 : Hid (R3.get 4 = (T.e, k4, R4)) := hide (by rw [e4, ← hT, hro])
  have E5 : Hid (R4.get 4 = (T.q, k5, R5)) := hide (by rw [e5, ← hT, hro])
  have E6 : Hid (R5.get 4 = (T.d, k6, R6)) := hide (by rw [e6, ← hT, hro])
  have E7 : Hid (R6.get 1 = (T.s, k7, R7)) := hide (by rw [e7, ← hT, hro])
  have E8 : Hid (R7.get 1 = (T.o, k8, R8)) := hide (by rw [e8, ← hT, hro])
  have E9 : Hid (R8.get 4 = (T.l, k9, R9)) := hide (by rw [e9, ← hT, hro])
  have E10 : Hid (R9.get 4 = (T.p, k10, R10)) := hide (by rw [e10, ← hT, hro])
  have E11 : Hid (R10.get 4 = (T.k, k11, R11)) := hide (by rw [e11, ← hT, hro])
  have E12 := hide e12
  have E13 := hide e13
  have HTb : Hid (T.bs = unbits D.y y12 ∧ T.ov = unbits D.y y13 ∧ T.us = usesU R13 D.n) := hide (by rw [← hT, hro]; exact ⟨rfl, rfl, rfl⟩)
  have HRO := hide hT
  rw [hT]
  clear hro hT hd hbd hk0 hb0 hv hl hA hG e1 e2 e3 e4 e5 e6 e7 e8 e9 e10 e11 e12 e13
  go_enter Try.func47, Try.ntmps47
  rw [hg]
  go_wp2_with fail
  rw [← HL.out]
  refine (from_at A c bs _ HV0.out HA.out (by rw [HL.out]; exact hn)).mono ?_
  rintro e w1 ⟨p, b, cap, A1, rfl, hp, hb, hb1, hr, hk⟩
  have HR1 := hide hr
  have HK1 := hide (HK0.out.trans hk (by simp))
  have HG1 := hide (HG0.out.kept hk)
  have HB1 := hide (hk.blk HB0.out (by simp))
  have hp1 := hr.lt
  have hgp : g < p := by omega
  have hgb : g < b := by omega
  have hpw : w.heap.size ≤ p := by omega
  have hbw : w.heap.size ≤ b := by omega
  have hGp : G ≠ p := by have := HG0.out.lt; omega
  clear hr hk hp hb HB0 HK0 HG0 HV0
  go_wp2_with fail
  refine (take_at p b cap A1 _ 2 _ HR1.out).mono ?_
  rintro e w2 ⟨A2, c2, rfl, _, hr, hk⟩
  have HR2 : Hid (RowAt w2 p b cap A1 (r0 bs)) := hide hr
  have HK2 := hide (HK1.out.trans hk (by simp; omega))
  have HG2 := hide (HG1.out.kept hk (by simp; exact hGp))
  have HB2 := hide (hk.blk HB1.out (by simp; omega))
  have hs2 := hk.size
  have hb2 : b < w2.heap.size := by omega
  clear hr hk HR1 HK1 HB1 HG1 hb1 hs2
  go_wp2_with fail
  refine (rgget_any p b cap A1 (r0 bs) R1 4 T.g k1 _ HR2.out E1.out).mono ?_
  rintro e w3 ⟨rfl, hr, hk⟩
  have HR3 := hide hr
  have HK3 := hide (HK2.out.trans hk (by simp; omega))
  have HG3 := hide (HG2.out.kept hk (by simp; exact hGp))
  have HB3 := hide (hk.blk HB2.out (by simp; omega))
  have hs3 := hk.size
  have hb3 : b < w3.heap.size := by omega
  clear hr hk HR2 HK2 HB2 HG2 hb2 hs3
  go_wp2_with fail
  refine (rgget_any p b cap A1 R1 R2 4 T.v k2 _ HR3.out E2.out).mono ?_
  rintro e w4 ⟨rfl, hr, hk⟩
  have HR4 := hide hr
  have HK4 := hide (HK3.out.trans hk (by simp; omega))
  have HG4 := hide (HG3.out.kept hk (by simp; exact hGp))
  have HB4 := hide (hk.blk HB3.out (by simp; omega))
  have hs4 := hk.size
  have hb4 : b < w4.heap.size := by omega
  clear hr hk HR3 HK3 HB3 HG3 hb3 hs4
  go_wp2_with fail
  refine (rgget_any p b cap A1 R2 R3 1 T.m k3 _ HR4.out E3.out).mono ?_
  rintro e w5 ⟨rfl, hr, hk⟩
  have HR5 := hide hr
  have HK5 := hide (HK4.out.trans hk (by simp; omega))
  have HG5 := hide (HG4.out.kept hk (by simp; exact hGp))
  have HB5 := hide (hk.blk HB4.out (by simp; omega))
  have hs5 := hk.size
  have hb5 : b < w5.heap.size := by omega
  clear hr hk HR4 HK4 HB4 HG4 hb4 hs5
  go_wp2_with fail
  refine (rgget_any p b cap A1 R3 R4 4 T.e k4 _ HR5.out E4.out).mono ?_
  rintro e w6 ⟨rfl, hr, hk⟩
  have HR6 := hide hr
  have HK6 := hide (HK5.out.trans hk (by simp; omega))
  have HG6 := hide (HG5.out.kept hk (by simp; exact hGp))
  have HB6 := hide (hk.blk HB5.out (by simp; omega))
  have hs6 := hk.size
  have hb6 : b < w6.heap.size := by omega
  clear hr hk HR5 HK5 HB5 HG5 hb5 hs6
  go_wp2_with fail
  refine (rgget_any p b cap A1 R4 R5 4 T.q k5 _ HR6.out E5.out).mono ?_
  rintro e w7 ⟨rfl, hr, hk⟩
  have HR7 := hide hr
  have HK7 := hide (HK6.out.trans hk (by simp; omega))
  have HG7 := hide (HG6.out.kept hk (by simp; exact hGp))
  have HB7 := hide (hk.blk HB6.out (by simp; omega))
  have hs7 := hk.size
  have hb7 : b < w7.heap.size := by omega
  clear hr hk HR6 HK6 HB6 HG6 hb6 hs7
  go_wp2_with fail
  refine (rgget_any p b cap A1 R5 R6 4 T.d k6 _ HR7.out E6.out).mono ?_
  rintro e w8 ⟨rfl, hr, hk⟩
  have HR8 := hide hr
  have HK8 := hide (HK7.out.trans hk (by simp; omega))
  have HG8 := hide (HG7.out.kept hk (by simp; exact hGp))
  have HB8 := hide (hk.blk HB7.out (by simp; omega))
  have hs8 := hk.size
  have hb8 : b < w8.heap.size := by omega
  clear hr hk HR7 HK7 HB7 HG7 hb7 hs8
  go_wp2_with fail
  refine (readAt_any p b cap A1 R6 R7 R8 R9 R10 R11 T.s T.o T.l T.p T.k k7 k8 k9 k10 k11 _ HR8.out hb8 E7.out E8.out E9.out E10.out E11.out).mono ?_
  rintro e w9 ⟨rfl, hr, hk⟩
  have HR9 := hide hr
  have HK9 := hide (HK8.out.trans hk (by simp; omega))
  have HG9 := hide (HG8.out.kept hk (by simp; exact hGp))
  have HB9 := hide (hk.blk HB8.out (by simp; omega))
  have hs9 := hk.size
  have hb9 : b < w9.heap.size := by omega
  clear hr hk HR8 HK8 HB8 HG8 hb8 hs9
  unfold posVal
  go_wp2_with fail
  refine (gpages G D _ HG9.out).mono ?_
  rintro e w10 ⟨rfl, hk⟩
  have HR10 := hide (HR9.out.kept hk (by simp) (by simp))
  have HK10 := hide (HK9.out.trans hk (by simp))
  have HG10 := hide (HG9.out.kept hk)
  have HB10 := hide (hk.blk HB9.out (by simp))
  skip
  have hs10 := hk.size
  have hb10 : b < w10.heap.size := by omega
  clear hk HR9 HK9 HB9 HG9 hb9 hs10
  go_wp2_with fail
  refine (rgget_any p b cap A1 R11 R12 1 y12 k12 _ HR10.out E12.out).mono ?_
  rintro e w11 ⟨rfl, hr, hk⟩
  have HR11 := hide hr
  have HK11 := hide (HK10.out.trans hk (by simp; omega))
  have HG11 := hide (HG10.out.kept hk (by simp; exact hGp))
  have HB11 := hide (hk.blk HB10.out (by simp; omega))
  skip
  have hs11 := hk.size
  have hb11 : b < w11.heap.size := by omega
  clear hr hk HR10 HK10 HB10 HG10 hb10 hs11
  go_wp2_with fail
  refine (unpacked_any D.y y12 _ hy12 hy).mono ?_
  rintro e w12 ⟨ga, rfl, hga, hu, hk⟩
  have Hga12 := hide hu
  have HR12 := hide (HR11.out.kept hk (by simp) (by simp))
  have HK12 := hide (HK11.out.trans hk (by simp))
  have HG12 := hide (HG11.out.kept hk)
  have HB12 := hide (hk.blk HB11.out (by simp))
  skip
  have hpga : p < ga := by have := HR11.out.lt; omega
  have hbga : b < ga := by omega
  have hs12 := hk.size
  have hb12 : b < w12.heap.size := by omega
  clear hu hk HR11 HK11 HB11 HG11 hb11
  go_wp2_with fail
  refine (gpages G D _ HG12.out).mono ?_
  rintro e w13 ⟨rfl, hk⟩
  have HR13 := hide (HR12.out.kept hk (by simp) (by simp))
  have HK13 := hide (HK12.out.trans hk (by simp))
  have HG13 := hide (HG12.out.kept hk)
  have HB13 := hide (hk.blk HB12.out (by simp))
  have Hga13 := hide (hk.blk Hga12.out (by simp))
  have hs13 := hk.size
  have hb13 : b < w13.heap.size := by omega
  clear hk HR12 HK12 HB12 HG12 hb12 hs13
  go_wp2_with fail
  refine (rgget_any p b cap A1 R12 R13 1 y13 k13 _ HR13.out E13.out).mono ?_
  rintro e w14 ⟨rfl, hr, hk⟩
  have HR14 := hide hr
  have HK14 := hide (HK13.out.trans hk (by simp; omega))
  have HG14 := hide (HG13.out.kept hk (by simp; exact hGp))
  have HB14 := hide (hk.blk HB13.out (by simp; omega))
  have Hga14 := hide (hk.blk Hga13.out (by simp; omega))
  have hs14 := hk.size
  have hb14 : b < w14.heap.size := by omega
  clear hr hk HR13 HK13 HB13 HG13 hb13 hs14
  go_wp2_with fail
  refine (unpacked_any D.y y13 _ hy13 hy).mono ?_
  rintro e w15 ⟨go, rfl, hgo, hu, hk⟩
  have Hgo15 := hide hu
  have HR15 := hide (HR14.out.kept hk (by simp) (by simp))
  have HK15 := hide (HK14.out.trans hk (by simp))
  have HG15 := hide (HG14.out.kept hk)
  have HB15 := hide (hk.blk HB14.out (by simp))
  have Hga15 := hide (hk.blk Hga14.out (by simp)); have hgago : ga < go := by have := Hga14.out.lt; omega
  have hpgo : p < go := by have := HR14.out.lt; omega
  have hbgo : b < go := by omega
  have hs15 := hk.size
  have hb15 : b < w15.heap.size := by omega
  clear hu hk HR14 HK14 HB14 HG14 hb14
  go_wp2_with fail
  refine (gcfg G D _ HG15.out).mono ?_
  rintro e w16 ⟨rfl, hk⟩
  have HR16 := hide (HR15.out.kept hk (by simp) (by simp))
  have HK16 := hide (HK15.out.trans hk (by simp))
  have HB16 := hide (hk.blk HB15.out (by simp))
  have Hga16 := hide (hk.blk Hga15.out (by simp))
  have Hgo16 := hide (hk.blk Hgo15.out (by simp))
  have hsz := hk.size
  have hb16 : b < w16.heap.size := by omega
  clear hk hsz hb15 HR15 HK15 HB15 HG15 Hga15 Hgo15
  have hfd := cfg1 D.b D.n D.z w16
  have hmk := run_make_uses D.n hn32 w16
  obtain ⟨m, hm⟩ : ∃ m, D.n = m := ⟨_, rfl⟩
  rw [hm] at hn32 HTb hfd hmk ⊢
  clear hm
  obtain ⟨wu, hwu⟩ : ∃ wu, w16.alloc (.cells (usVals (List.replicate m Us.zero)).toArray 79) = wu := ⟨_, rfl⟩
  have hku : Kept [] w16 wu := by rw [← hwu]; exact (Kept.refl [] w16).alloc _
  have hbu : UBlk wu w16.heap.size (List.replicate m Us.zero) := by rw [← hwu]; exact Blk.new w16 _ _
  obtain ⟨gu, hgu⟩ : ∃ gu, w16.heap.size = gu := ⟨_, rfl⟩
  rw [hgu] at hbu hmk
  rw [hwu] at hmk
  have h1 := HR16.out.lt
  have h3 := Hga16.out.lt
  have h4 := Hgo16.out.lt
  have h5 := HB16.out.lt
  have h6 := HK16.out.size
  obtain ⟨wq, hwq⟩ : ∃ wq, wu.alloc (.cells (T.cells ⟨some ⟨ga, 0, none⟩, some ⟨go, 0, none⟩, some ⟨gu, 0, none⟩, D.y, D.y, D.y, D.y, m, m⟩) 28) = wq := ⟨_, rfl⟩
  have hkq : Kept [] wu wq := by rw [← hwq]; exact (Kept.refl [] wu).alloc _
  have hbq : Blk wq wu.heap.size 28 (T.cells ⟨some ⟨ga, 0, none⟩, some ⟨go, 0, none⟩, some ⟨gu, 0, none⟩, D.y, D.y, D.y, D.y, m, m⟩) := by rw [← hwq]; exact Blk.new wu _ _
  obtain ⟨q, hq⟩ : ∃ q, wu.heap.size = q := ⟨_, rfl⟩
  rw [hq] at hbq
  have hku2 := hku.size
  have hguq : gu < q := by have := hbu.lt; omega
  have hk2 := hku.trans hkq (by simp)
  have HRQ := hide (HR16.out.kept hk2 (by simp) (by simp))
  have HKQ := hide (HK16.out.trans hk2 (by simp))
  have HBQ := hide (hk2.blk HB16.out (by simp))
  have HgaQ := hide (hk2.blk Hga16.out (by simp))
  have HgoQ := hide (hk2.blk Hgo16.out (by simp))
  have HUQ : Hid (UBlk wq gu (usesU R13 0 ++ List.replicate (m - 0) Us.zero)) := hide (hkq.blk hbu (by simp))
  have HQQ := hide hbq
  unfold Rg.cells at hwq
  dsimp only at hwq
  have d13 : wq.cell? ⟨q, 13, none⟩ = some (.slice (some ⟨gu, 0, none⟩) m m) := hbq.cell 13
  have D13 := hide d13
  have hpu : p < gu := by omega
  have hbu2 : b < gu := by omega
  have hgau : ga < gu := by omega
  have hgou : go < gu := by omega
  have hggu : g < gu := by omega
  have hwga : w.heap.size ≤ ga := by omega
  have hwgo : w.heap.size ≤ go := by omega
  have hwgu : w.heap.size ≤ gu := by omega
  have hwq2 : w.heap.size ≤ q := by omega
  clear hku hbu hkq hbq hk2 hku2 hwu h1 h3 h4 h5 h6 HR16 HK16 HB16 Hga16 Hgo16
  go_wp2
  go_loopw [44] (fun i wr => ∃ j : Nat, j ≤ m ∧ i = .int .i64 j ∧ Hid (RowAt wr p b cap A1 (rowU R13 j)) ∧ Hid (UBlk wr gu (usesU R13 j ++ List.replicate (m - j) Us.zero)) ∧ Hid (Kept [p, gu] wq wr)) (fun i wr => m - (intOf i).toNat)
  case atStart => exact ⟨0, by omega, rfl, HRQ, HUQ, hide (Kept.refl _ _)⟩
  case round =>
    obtain ⟨j, hj, rfl, HRr, HUr, HKr⟩ := hrel
    clear HRQ HUQ
    have hqp : q ≠ p := by omega
    have hqu : q ≠ gu := by omega
    by_cases hlt : j < m
    · obtain ⟨s, ks, Ra, es⟩ : ∃ y k R', (rowU R13 j).get 1 = (y, k, R') := ⟨_, _, _, rfl⟩
      obtain ⟨t, kt, Rb, et⟩ : ∃ y k R', Ra.get 4 = (y, k, R') := ⟨_, _, _, rfl⟩
      have hnx : rowU R13 (j + 1) = Rb := by
        show (((rowU R13 j).get 1).2.2.get 4).2.2 = Rb
        rw [es, et]
      have hux : usesU R13 (j + 1) = usesU R13 j ++ [⟨s, t⟩] := by
        rw [usesU_succ]
        unfold useU
        rw [es, et]
      have HNX := hide hnx
      have HUX := hide hux
      have Es := hide es
      have Et := hide et
      have hz : (usesU R13 j ++ List.replicate (m - j) Us.zero)[j]? = some Us.zero := by
        rw [List.getElem?_append_right (by rw [usesU_len]; exact Nat.le_refl _), usesU_len, Nat.sub_self, List.getElem?_replicate, if_pos (by omega)]
      have HZ := hide hz
      have HST := hide (show Kept [p, gu] wr wr ∧ wr.cell? ⟨q, 13, none⟩ = some (.slice (some ⟨gu, 0, none⟩) m m) from ⟨Kept.refl _ _, HKr.out.cell D13.out (by simp; exact ⟨hqp, hqu⟩)⟩)
      have hlti : (j : Int) < (m : Int) := by omega
      have hpgu : p ≠ gu := by omega
      have hbgu : b ≠ gu := by omega
      clear hnx hux es et hz
      go_wp2_with fail
      refine wp_region_noPanic ?_
      refine wp_region_held_drew (S := fun W => Kept [p, gu] wr W ∧ W.cell? ⟨q, 13, none⟩ = some (.slice (some ⟨gu, 0, none⟩) m m)) (by kernel_rfl) (by exact ⟨HST.out.1.drew, HST.out.2⟩) (fun hHeld => ?_)
      refine wpAnyH_take (i := 0) (oi := ⟨some 47, _, _, _, _, _⟩) (v := ?v1) rfl (by kernel_rfl) (by kernel_rfl) (by kernel_rfl) (fun _ _ _ h => h) (Or.inl ⟨by rfl, ?hy1⟩) (by assumption) ?rest1
      case hy1 => (intro W hSw; (try dsimp only at hSw); go_simp; try with_reducible rfl)
      try simp only [Act.put, List.setIfInBounds_toArray, List.set_cons_zero, List.set_cons_succ]
      refine wpAnyH_take (i := 1) (oi := ⟨some 48, _, _, _, _, _⟩) (v := ?v2) rfl (by kernel_rfl) (by kernel_rfl) (by kernel_rfl) (fun _ _ _ h => h) (Or.inl ⟨by rfl, ?hy2⟩) (by assumption) ?rest2
      case hy2 => (intro W hSw; (try dsimp only at hSw); go_simp; try with_reducible rfl)
      try simp only [Act.put, List.setIfInBounds_toArray, List.set_cons_zero, List.set_cons_succ]
      refine wpAnyH_take (i := 2) (oi := ⟨some 49, _, _, _, _, _⟩) (v := ?v3) rfl (by kernel_rfl) (by kernel_rfl) (by kernel_rfl) (fun _ _ _ h => h) (Or.inl ⟨by rfl, ?hy3⟩) (by assumption) ?rest3
      case hy3 => (intro W hSw; (try dsimp only at hSw); go_simp; try with_reducible rfl)
      try simp only [Act.put, List.setIfInBounds_toArray, List.set_cons_zero, List.set_cons_succ]
      refine wpAnyH_take (i := 3) (oi := ⟨some 50, _, _, _, _, _⟩) (v := ?v4) rfl (by kernel_rfl) (by kernel_rfl) (by kernel_rfl) (fun _ _ _ h => h) (Or.inl ⟨by rfl, ?hy4⟩) (by assumption) ?rest4
      case hy4 => (intro W hSw; (try dsimp only at hSw); go_simp; try with_reducible rfl)
      try simp only [Act.put, List.setIfInBounds_toArray, List.set_cons_zero, List.set_cons_succ]
      refine wpAnyH_take (i := 5) (oi := ⟨some 52, _, _, _, _, _⟩) (v := ?v5) rfl (by kernel_rfl) (by kernel_rfl) (by kernel_rfl) (fun _ _ _ h => h) (Or.inl ⟨by rfl, ?hy5⟩) (by assumption) ?rest5
      case hy5 => (intro W hSw; (try dsimp only at hSw); go_simp; try with_reducible rfl)
      try simp only [Act.put, List.setIfInBounds_toArray, List.set_cons_zero, List.set_cons_succ]
      refine held_one (i := 4) (o := ⟨some 51, _, _, _, _, _⟩) rfl (by kernel_rfl) (by rfl) (fun K hK => ?_)
      go_simp
      refine (rgget_any p b cap A1 (rowU R13 j) Ra 1 s ks _ (HRr.out.drewN 1) Es.out).mono ?_
      rintro e x1 ⟨rfl, hr1, hk1⟩
      refine hK.out _ _ (by exact rdheld hqp hqu hHeld (hk1.mono (by simp))) (fun hHeld => ?_)
      clear hK K
      try simp only [Act.put, List.setIfInBounds_toArray, List.set_cons_zero, List.set_cons_succ]
      refine held_one (i := 6) (o := ⟨some 53, _, _, _, _, _⟩) rfl (by kernel_rfl) (by rfl) (fun K hK => ?_)
      go_simp
      refine (rgget_any p b cap A1 Ra Rb 4 t kt _ hr1 Et.out).mono ?_
      rintro e x2 ⟨rfl, hr2, hk2⟩
      refine hK.out _ _ (by exact rdheld hqp hqu hHeld (hk2.mono (by simp))) (fun hHeld => ?_)
      clear hK K
      try simp only [Act.put, List.setIfInBounds_toArray, List.set_cons_zero, List.set_cons_succ]
      refine wpAnyH_take (i := 7) (oi := ⟨some 54, _, _, _, _, _⟩) (v := ?v6) rfl (by kernel_rfl) (by kernel_rfl) (by kernel_rfl) (fun _ _ _ h => h) (Or.inl ⟨by rfl, ?hy6⟩) (by assumption) ?rest6
      case hy6 => (intro W hSw; (try dsimp only at hSw); go_simp; try with_reducible rfl)
      try simp only [Act.put, List.setIfInBounds_toArray, List.set_cons_zero, List.set_cons_succ]
      refine wpAnyH_take (i := 8) (oi := ⟨some 55, _, _, _, _, _⟩) (v := ?v7) rfl (by kernel_rfl) (by kernel_rfl) (by kernel_rfl) (fun _ _ _ h => h) (Or.inl ⟨by rfl, ?hy7⟩) (by assumption) ?rest7
      case hy7 => (intro W hSw; (try dsimp only at hSw); go_simp; try with_reducible rfl)
      try simp only [Act.put, List.setIfInBounds_toArray, List.set_cons_zero, List.set_cons_succ]
      refine held_one (i := 9) (o := ⟨none, _, _, _, _, _⟩) rfl (by kernel_rfl) (by rfl) (fun K hK => ?_)
      have hu2 : UBlk x2 gu (usesU R13 j ++ List.replicate (m - j) Us.zero) := hk2.blk (hk1.blk (Blk.drewN HUr.out 1) (by simp; exact Ne.symm hpgu)) (by simp; exact Ne.symm hpgu)
      obtain ⟨z0, z1⟩ := hu2.at_ (k := j) HZ.out
      dsimp only at z1
      have y0 := Blk.frozen hu2 (j * 2)
      have y1 := Blk.frozen hu2 (j * 2 + 1)
      simp only [Us.zero] at z0 z1
      go_simp
      have hks : Kept [p, gu] x2 ((x2.setCell ⟨gu, j * 2, none⟩ (.int .i64 s)).setCell ⟨gu, j * 2 + 1, none⟩ (.int .i64 t)) := ((Kept.refl [p, gu] x2).set_ (b := gu) (.inl (by simp)) _ _).set_ (b := gu) (.inl (by simp)) _ _
      have hkg : Kept [gu] x2 ((x2.setCell ⟨gu, j * 2, none⟩ (.int .i64 s)).setCell ⟨gu, j * 2 + 1, none⟩ (.int .i64 t)) := ((Kept.refl [gu] x2).set_ (b := gu) (.inl (by simp)) _ _).set_ (b := gu) (.inl (by simp)) _ _
      have hbs := hu2.put_at (k := j) ⟨s, t⟩ (by rw [List.length_append, usesU_len, List.length_replicate]; omega)
      dsimp only at hbs
      generalize (x2.setCell ⟨gu, j * 2, none⟩ (.int .i64 s)).setCell ⟨gu, j * 2 + 1, none⟩ (.int .i64 t) = x3 at hks hkg hbs ⊢
      refine hK.out _ _ (by exact rdheld hqp hqu hHeld hks) (fun hHeld => ?_)
      clear hK K
      try simp only [Act.put, List.setIfInBounds_toArray, List.set_cons_zero, List.set_cons_succ]
      refine wpAnyH_done (by kernel_rfl) ?_ _
      refine NoPanic.normal ?_
      have HR9 : Hid (RowAt x3 p b cap A1 (rowU R13 (j + 1))) := hide (by
        rw [HNX.out]
        exact hr2.kept hkg (by simp; exact hpgu) (by simp; exact hbgu))
      have HU9 : Hid (UBlk x3 gu (usesU R13 (j + 1) ++ List.replicate (m - (j + 1)) Us.zero)) := hide (by
        rw [HUX.out, ← set_use _ j m _ (usesU_len _ _) hlt]
        exact hbs)
      have HK9 := hide (HKr.out.trans hHeld.1 (fun i hi => .inl hi))
      clear hr1 hr2 hk1 hk2 hks hkg hbs hHeld hu2 z0 z1 y0 y1
      go_wp2
      go_roundw
      case rel => exact ⟨j + 1, by omega, by go_num, HR9, HU9, HK9⟩
      case measure => simp [intOf]; omega
    · obtain rfl : j = m := by omega
      have hu := HUr.out
      rw [Nat.sub_self, List.replicate_zero, List.append_nil] at hu
      have hsQ := HKQ.out.size
      have HBr := hide (HKr.out.blk HBQ.out (by simp; omega))
      have Hgar := hide (HKr.out.blk HgaQ.out (by simp; omega))
      have Hgor := hide (HKr.out.blk HgoQ.out (by simp; omega))
      have HKW := hide (HKQ.out.trans HKr.out (by simp; omega))
      have HUr2 := hide hu
      obtain ⟨c0, c1, c2, c3, c4, c5, c6, c7, c8, c9, c10, c11, c12, c13⟩ := cell14 (HKr.out.blk HQQ.out (by simp; omega))
      dsimp only at c11 c12 c13
      obtain ⟨d0, d1, d2, d3, d4, d5, d6, d7, d8, d9, d10, d11, d12, d13⟩ := cell14 HBr.out
      simp only [Rg.zero, Sl.zero] at d0 d1 d2 d3 d4 d5 d6 d7 d8 d9 d10 d11 d12 d13
      have f0 := HBr.out.frozen 0
      have f1 := HBr.out.frozen 1
      have f2 := HBr.out.frozen 2
      have f3 := HBr.out.frozen 3
      have f4 := HBr.out.frozen 4
      have f5 := HBr.out.frozen 5
      have f6 := HBr.out.frozen 6
      have f7 := HBr.out.frozen 7
      have f8 := HBr.out.frozen 8
      have f9 := HBr.out.frozen 9
      have f10 := HBr.out.frozen 10
      have f11 := HBr.out.frozen 11
      have f12 := HBr.out.frozen 12
      have f13 := HBr.out.frozen 13
      have hbw := hide (put14_at T ⟨some ⟨ga, 0, none⟩, some ⟨go, 0, none⟩, some ⟨gu, 0, none⟩, D.y, D.y, D.y, D.y, j, j⟩ HBr.out)
      have hkw := hide (put14_kept (S := []) T ⟨some ⟨ga, 0, none⟩, some ⟨go, 0, none⟩, some ⟨gu, 0, none⟩, D.y, D.y, D.y, D.y, j, j⟩ HKW.out (g := g) (.inr HGW.out))
      have hkg := hide (put14_kept (S := [g]) T ⟨some ⟨ga, 0, none⟩, some ⟨go, 0, none⟩, some ⟨gu, 0, none⟩, D.y, D.y, D.y, D.y, j, j⟩ (Kept.refl [g] wr) (g := g) (.inl (by simp)))
      have hpe := put14_eq wr g T ⟨some ⟨ga, 0, none⟩, some ⟨go, 0, none⟩, some ⟨gu, 0, none⟩, D.y, D.y, D.y, D.y, j, j⟩
      dsimp only at hpe
      have HPE := hide hpe
      clear hu hpe hsQ
      go_wp2
      rw [HPE.out]
      generalize put14 wr g T ⟨some ⟨ga, 0, none⟩, some ⟨go, 0, none⟩, some ⟨gu, 0, none⟩, D.y, D.y, D.y, D.y, j, j⟩ = W at hbw hkw hkg ⊢
      obtain ⟨t0, t1, t2, t3, t4, t5, t6, t7, t8, t9, t10, t11, t12, t13⟩ := cell14 hbw.out
      dsimp only at t11 t12 t13
      refine bodyPost_ret (v := T.val ⟨some ⟨ga, 0, none⟩, some ⟨go, 0, none⟩, some ⟨gu, 0, none⟩, D.y, D.y, D.y, D.y, j, j⟩) ?_ rfl ⟨⟨some ⟨ga, 0, none⟩, some ⟨go, 0, none⟩, some ⟨gu, 0, none⟩, D.y, D.y, D.y, D.y, j, j⟩, rfl, ⟨by show D.y ≤ 1000; omega, by show D.y ≤ 1000; omega, by show j ≤ 1000; omega⟩, fun S hS => ?_, hkw.out⟩
      · simp [results, Try.results47, go_sem, t0, t1, t2, t3, t4, t5, t6, t7, t8, t9, t10, t11, t12, t13, Rg.val]
      · obtain ⟨h1, h2, h3⟩ := HTb.out
        have nS : ∀ x, w.heap.size ≤ x → x ∉ S := fun x hx hm => by have := hS x hm; omega
        refine ⟨by rw [h1]; exact unbits_len _ _, by rw [h2]; exact unbits_len _ _, by rw [h3]; exact usesU_len _ _, ?_, ?_, ?_⟩
        · rw [h1]
          exact Vals.blk 0 (hkg.out.blk Hgar.out (by simp; omega)) (nS ga hwga) (fun i v hv => by rw [Nat.zero_add, List.getElem?_toArray]; exact hv)
        · rw [h2]
          exact Vals.blk 0 (hkg.out.blk Hgor.out (by simp; omega)) (nS go hwgo) (fun i v hv => by rw [Nat.zero_add, List.getElem?_toArray]; exact hv)
        · rw [h3]
          exact UBlk.uses (hkg.out.blk HUr2.out (by simp; omega)) (nS gu hwgu)
end Go.Proofs.Ythacnlpdodlggaa.rg
