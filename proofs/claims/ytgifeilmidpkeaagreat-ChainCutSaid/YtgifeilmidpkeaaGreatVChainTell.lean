import Derived.Test.YtgifeilmidpkeaaGreatVScanToldCore
set_option linter.unusedSimpArgs false
namespace Go.Proofs.YtgifeilmidpkeaaGreat.sc
open Go.RowKit mem base disk owns
open record (Rc RcIn RcAt put5 put5_kept cell5)
attribute [local go_sem] Oper.semAt_some
def TellAt (W : World) (x : Nat) (dv : Option Addr) (a z : Int) (p : Ps) (hb : Bool) (D : Dk) (pk : Ps) (R : Rc) : Prop :=
 ∃ sm, follow D a z pk = (some (R, sm), 0) ∧ ScAt W x dv a z p hb (behind pk R sm) 0

set_option maxRecDepth 100000 in
set_option maxHeartbeats 4000000 in
theorem recs_tell (n : Nat) (F : List Nat) (D : Dk) (hD : D.ok) (lp Bs x : Nat) (dv : Option Addr) (a z : Int) (p : Ps) (hb : Bool) (e0 : Ps) (er0 : Int) (l : List (Ps × Rc)) (E : Ps) (err : Int) (I0 : List Nat) (N Nx : List Nat → List (Ps × Rc) → List Nat → World → Prop)
  (hN : Abides N) (hNx : Abides Nx) (hC : ∀ I pre C W, N I pre C W → ∀ y ∈ C, y < W.heap.size) (hl : scanOf D a z p hb = (l, E, err))
  (hY : ∀ q pre C W pk R L m c P k d, N (q :: x :: I0) pre C W → pre ++ [(pk, R)] <+: l → RcIn W ((q :: x :: I0) ++ C ++ F) L m P k R → (∀ y ∈ q :: x :: I0, y < W.heap.size) → TellAt W x dv a z p hb D pk R → YieldAt Fence.wide (n - 1) Tryz.prog lp #[.int .i64 pk.o, .agg #[.int .i64 R.m, .int .i64 R.l, .int .i64 R.p, .slice L m c, .slice P k d]] W fun e W' =>
   ∃ C', (∀ y ∈ C', y ∈ C ∨ W.heap.size ≤ y) ∧ Kept C W W' ∧ ((e = .returned (.bool true) ∧ N (q :: x :: I0) (pre ++ [(pk, R)]) C' W') ∨ (e = .returned (.bool false) ∧ Nx (q :: x :: I0) (pre ++ [(pk, R)]) C' W')))
  (W : World) (C0 : List Nat) (h0 : ∀ q, W.heap.size ≤ q → N (q :: x :: I0) [] C0 W) (hI0 : ∀ y ∈ I0, y < W.heap.size) (hcz : ∀ y ∈ C0, y < W.heap.size) (hc : Apart C0 Bs x F) (hbox : Blk W Bs 49 #[.pointer (some ⟨x, 0, none⟩)]) (hs : ScAt W x dv a z p hb e0 er0) (hv : Dsk W F dv z D) (hF : ∀ y ∈ F, y < W.heap.size) (hxF : x ∉ F) (hbF : Bs ∉ F) (hxb : x ≠ Bs)
  (ha : 0 ≤ a ∧ a ≤ 10000) (hz : 0 ≤ z ∧ z ≤ 1000) :
  CallsIn Fence.wide n Tryz.prog 159 #[.func (.yield lp) #[] #[], .pointer (some ⟨Bs, 0, none⟩)] W fun e W' => (∃ v, e = .returned v) ∧ RecsEnd D Bs x F dv a z p hb l E err I0 C0 W N Nx W' := by
 have HN := hide hN
 have HNX := hide hNx
 have HC := hide hC
 have HY := hide hY
 have H0 := hide h0
 have HI0 := hide hI0
 have HC0 := hide hcz
 have HAP := hide hc
 have HBX := hide hbox
 have HS := hide hs
 have HV := hide hv
 have HF := hide hF
 have HXF := hide hxF
 have HBF := hide hbF
 have HXB := sealed hxb
 have HA := hide ha
 have HZ := hide hz
 have HD := hide hD
 have HL := sealed hl
 have hc0 : W.cell? ⟨Bs, 0, none⟩ = some (.pointer (some ⟨x, 0, none⟩)) := hbox.cell 0
 have HXL := hide hs.lt
 have HBL := hide hbox.lt
 clear hN hNx hC hY h0 hI0 hcz hc hbox hs hv hF hxF hbF hxb ha hz hD hl
 have hmx : Tryz.prog.follows .mixedOrders = true := by kernel_rfl
 refine callsIn_of_wp Tryz.func159 rfl trivial ?_ rfl
 simp only [Tryz.ntmps159, List.size_toArray, List.length_cons, List.length_nil, Nat.reduceAdd, Nat.reduceSub, Array.replicate_succ, Array.replicate_zero, List.push_toArray, List.append_toArray, List.nil_append, List.cons_append]
 gi_wp2_with (refine ⟨trivial, (by intro h; cases h), ?_⟩; gi_at_call 160; refine (callsIn_wide.2 (begin_any F D HD.out x dv a z p hb e0 er0 _ HS.out HV.out HF.out HA.out HZ.out.2)).mono ?_; rintro e w1 ⟨q, rfl, hq, hwk, hk⟩)
 have HQ := hide hq
 have HON : Hid (ItOn D Bs x q F dv a z p hb l E err I0 C0 W N w1) := hide (by
  have hk' := hk
  refine ⟨[], (begun D a z p hb).1, (begun D a z p hb).2.1, (begun D a z p hb).2.2, C0, e0, er0, ?_, hwk, HS.out.kept hk (by simp), HN.out _ _ _ _ _ _ (H0.out q hq) hk (by simp), ⟨HAP.out, fun hm => by have := HC0.out q hm; omega⟩, HV.out.kept hk (by simp), hk.blk HBX.out (by simp), hk.mono (by simp), fun y hy => .inl hy⟩
  exact after_begun HL.out)
 clear hwk hk hc0
 have HSEP := hide (show (q ≠ x ∧ q ≠ Bs) ∧ q ∉ F from ⟨⟨by have := HXL.out; omega, by have := HBL.out; omega⟩, fun hm => by have := HF.out q hm; omega⟩)
 gi_loopw [4] (fun v wr => (v = .bool true ∧ Hid (ItOn D Bs x q F dv a z p hb l E err I0 C0 W N wr)) ∨ (v = .bool false ∧ Hid (RecsEnd D Bs x F dv a z p hb l E err I0 C0 W N Nx wr))) (fun v wr => muOf q z v wr)
 case atStart => exact .inl ⟨rfl, HON⟩
 case round =>
  rcases hrel with ⟨rfl, HI⟩ | ⟨rfl, HE⟩
  ·obtain ⟨pre, pk, er, ov, C, e', er', haf, hwk, hsc, hn, ⟨hap, hqc⟩, hdv, hbx, hkw, hcc⟩ := HI.out
   clear HI
   obtain ⟨q0, q1, q2, q3, q4⟩ := hwk.place
   cases ov with
   | true =>
    have HPL : Hid (l = pre ∧ E = pk ∧ err = er) := hide (by cases haf with | over h1 h2 => exact ⟨h1, h2, rfl⟩)
    gi_wp2_with (refine ⟨trivial, (by intro h; cases h), ?_⟩; gi_at_call 161; refine (callsIn_wide.2 (wnext_over q dv a z pk er _ hwk)).mono ?_; rintro e w2 ⟨rfl, hk2'⟩; clear q0 q1 q2 q3 q4; have hk2 := hk2'.mono (S' := [q]) (by simp); have hw2 := hwk.kept hk2' (by simp); clear hk2')
    obtain ⟨pn, hpn⟩ : ∃ pn, pn = pk := ⟨_, rfl⟩
    obtain ⟨en, hen⟩ : ∃ en, en = er := ⟨_, rfl⟩
    have HPN := sealed hpn
    rw [← hpn, ← hen] at HPL hw2
    clear hen haf hpn
    have hk3 := (Kept.refl [] w2).alloc (.cells #[.int .i64 0, .int .i64 0, .int .i64 0, .slice none 0 0, .slice none 0 0] 77)
    have HWw3 := hide (hw2.kept hk3 (by simp))
    have HSw3 := hide ((hsc.kept hk2 (by have := HSEP.out.1.1; simpa using fun h => this h.symm)).kept hk3 (by simp))
    have HBw3 := hide (hk3.blk (hk2.blk hbx (by have := HSEP.out.1.2; simpa using fun h => this h.symm)) (by simp))
    have HNw3 := hide (HN.out _ _ _ _ _ _ (HN.out _ _ _ _ _ _ hn hk2 (by simp)) hk3 (by simp))
    have HVw3 := hide ((hdv.kept hk2 (by have := HSEP.out.2; intro y hy hm; simp at hm; subst hm; exact this hy)).kept hk3 (by simp))
    have HMU := hide (muOf_at hwk true)
    have HAPP := hide hap
    have HKW3 := hide ((hkw.trans hk2 (fun i hi => by simp at hi; subst hi; exact .inr HQ.out)).trans hk3 (by simp))
    clear hk3 hk2 hw2 hsc hbx hn hqc hdv hap hwk hkw hcc
    generalize w2.alloc (.cells #[.int .i64 0, .int .i64 0, .int .i64 0, .slice none 0 0, .slice none 0 0] 77) = w3 at HWw3 HSw3 HBw3 HNw3 HVw3 HKW3 ⊢
    obtain ⟨y0, y1, y2, y3, y4, y5⟩ := HSw3.out.end_
    have f9 := HSw3.out.frozen 9
    have f10 := HSw3.out.frozen 10
    have f11 := HSw3.out.frozen 11
    have f12 := HSw3.out.frozen 12
    have f13 := HSw3.out.frozen 13
    obtain ⟨q0, q1, q2, q3, q4⟩ := HWw3.out.place
    have q5 := HWw3.out.rest.1
    have b0 : w3.cell? ⟨Bs, 0, none⟩ = some (.pointer (some ⟨x, 0, none⟩)) := HBw3.out.cell 0
    have HSA := hide ((HSw3.out.setEnd pn).kept (Kept.refl [] _).drew (by simp))
    have HKA := hide (((((((Kept.refl [x] w3).set_ (b := x) (.inl (by simp)) 9 (.int .i64 pn.s)).set_ (b := x) (.inl (by simp)) 10 (.int .i64 pn.o)).set_ (b := x) (.inl (by simp)) 11 (.int .i64 pn.l)).set_ (b := x) (.inl (by simp)) 12 (.int .i64 pn.v)).set_ (b := x) (.inl (by simp)) 13 (.int .i64 pn.m)).drew)
    refine wpIn_wide.2 ?_
    refine wp_region_noPanic ?_
    refine wp_region_held_drew (S := fun W => True ∧ W.cell? ⟨Bs, 0, none⟩ = some (.pointer (some ⟨x, 0, none⟩)) ∧ W.cell? ⟨q, 3, none⟩ = some (.int .i64 pn.s) ∧ W.cell? ⟨q, 4, none⟩ = some (.int .i64 pn.o) ∧ W.cell? ⟨q, 5, none⟩ = some (.int .i64 pn.l) ∧ W.cell? ⟨q, 6, none⟩ = some (.int .i64 pn.v) ∧ W.cell? ⟨q, 7, none⟩ = some (.int .i64 pn.m) ∧ W.cell? ⟨q, 8, none⟩ = some (.int .i64 en)) (by kernel_rfl) (by exact ⟨trivial, b0, q0, q1, q2, q3, q4, q5⟩) (fun hHeld => ?_)
    refine tK 0 23 rfl ?_
    try simp only [Act.put, pA, pB, pC]
    refine tK 1 24 rfl ?_
    try simp only [Act.put, pA, pB, pC]
    refine tK 2 25 rfl ?_
    try simp only [Act.put, pA, pB, pC]
    refine tK 3 26 rfl ?_
    try simp only [Act.put, pA, pB, pC]
    refine tK 4 27 rfl ?_
    try simp only [Act.put, pA, pB, pC]
    refine tK 5 28 rfl ?_
    try simp only [Act.put, pA, pB, pC]
    refine tK 6 29 rfl ?_
    try simp only [Act.put, pA, pB, pC]
    refine tK 7 30 rfl ?_
    try simp only [Act.put, pA, pB, pC]
    refine tK 8 31 rfl ?_
    try simp only [Act.put, pA, pB, pC]
    refine tK 9 32 rfl ?_
    try simp only [Act.put, pA, pB, pC]
    refine tK 10 33 rfl ?_
    try simp only [Act.put, pA, pB, pC]
    refine tK 11 34 rfl ?_
    try simp only [Act.put, pA, pB, pC]
    refine hO 12 none rfl fun K hK => ?_
    go_simp
    generalize (((((w3.setCell ⟨x, 9, none⟩ (.int .i64 pn.s)).setCell ⟨x, 10, none⟩ (.int .i64 pn.o)).setCell ⟨x, 11, none⟩ (.int .i64 pn.l)).setCell ⟨x, 12, none⟩ (.int .i64 pn.v)).setCell ⟨x, 13, none⟩ (.int .i64 pn.m)).drew = wA at HSA HKA ⊢
    have HWA := hide (HWw3.out.kept HKA.out (by have := HSEP.out.1.1; simpa using this))
    have HBA := hide (HKA.out.blk HBw3.out (by have := HXB.out; simpa using fun h => this h.symm))
    have f14 := HSA.out.frozen 14
    have y14 := HSA.out.end_.2.2.2.2.2
    refine hK.out _ _ (by exact ⟨trivial, HBA.out.cell 0, HWA.out.place.1, HWA.out.place.2.1, HWA.out.place.2.2.1, HWA.out.place.2.2.2.1, HWA.out.place.2.2.2.2, HWA.out.rest.1⟩) (fun hHeld => ?_)
    clear hK K
    try simp only [Act.put, pA, pB, pC]
    refine tK 13 35 rfl ?_
    try simp only [Act.put, pA, pB, pC]
    refine tK 14 36 rfl ?_
    try simp only [Act.put, pA, pB, pC]
    refine hO 15 none rfl fun K hK => ?_
    go_simp
    have HSw4 := hide (HSA.out.setErr en)
    have HKB := hide ((Kept.refl [x] wA).set_ (b := x) (.inl (by simp)) 14 (.int .i64 en))
    generalize wA.setCell ⟨x, 14, none⟩ (.int .i64 en) = w4 at HSw4 HKB ⊢
    have HWw4 := hide (HWA.out.kept HKB.out (by have := HSEP.out.1.1; simpa using this))
    have HBw4 := hide (HKB.out.blk HBA.out (by have := HXB.out; simpa using fun h => this h.symm))
    have HKw4 := hide (HKA.out.trans HKB.out (by simp))
    refine hK.out _ _ (by exact ⟨trivial, HBw4.out.cell 0, HWw4.out.place.1, HWw4.out.place.2.1, HWw4.out.place.2.2.1, HWw4.out.place.2.2.2.1, HWw4.out.place.2.2.2.2, HWw4.out.rest.1⟩) (fun hHeld => ?_)
    clear hK K
    try simp only [Act.put, pA, pB, pC]
    refine wpAnyH_done (by kernel_rfl) ?_ _
    refine NoPanic.normal ?_
    clear y0 y1 y2 y3 y4 y5 f9 f10 f11 f12 f13 f14 y14 q0 q1 q2 q3 q4 q5 b0 HSA HKA HWA HBA HKB
    obtain ⟨y0, y1, y2, y3, y4, y5⟩ := HSw4.out.end_
    have f9 := HSw4.out.frozen 9
    have f10 := HSw4.out.frozen 10
    have f11 := HSw4.out.frozen 11
    have f12 := HSw4.out.frozen 12
    have f13 := HSw4.out.frozen 13
    obtain ⟨q0, q1, q2, q3, q4⟩ := HWw4.out.place
    have q5 := HWw4.out.rest.1
    have b0 : w4.cell? ⟨Bs, 0, none⟩ = some (.pointer (some ⟨x, 0, none⟩)) := HBw4.out.cell 0
    have HSA := hide ((HSw4.out.setEnd pn).kept (Kept.refl [] _).drew (by simp))
    have HKA := hide (((((((Kept.refl [x] w4).set_ (b := x) (.inl (by simp)) 9 (.int .i64 pn.s)).set_ (b := x) (.inl (by simp)) 10 (.int .i64 pn.o)).set_ (b := x) (.inl (by simp)) 11 (.int .i64 pn.l)).set_ (b := x) (.inl (by simp)) 12 (.int .i64 pn.v)).set_ (b := x) (.inl (by simp)) 13 (.int .i64 pn.m)).drew)
    gi_wp2
    refine ⟨fun _ h => (by cases h), ?_⟩
    gi_wp2
    refine wpIn_wide.2 ?_
    refine wp_region_noPanic ?_
    refine wp_region_held_drew (S := fun W => True ∧ W.cell? ⟨Bs, 0, none⟩ = some (.pointer (some ⟨x, 0, none⟩)) ∧ W.cell? ⟨q, 3, none⟩ = some (.int .i64 pn.s) ∧ W.cell? ⟨q, 4, none⟩ = some (.int .i64 pn.o) ∧ W.cell? ⟨q, 5, none⟩ = some (.int .i64 pn.l) ∧ W.cell? ⟨q, 6, none⟩ = some (.int .i64 pn.v) ∧ W.cell? ⟨q, 7, none⟩ = some (.int .i64 pn.m) ∧ W.cell? ⟨q, 8, none⟩ = some (.int .i64 en)) (by kernel_rfl) (by exact ⟨trivial, b0, q0, q1, q2, q3, q4, q5⟩) (fun hHeld => ?_)
    refine tK 0 44 rfl ?_
    try simp only [Act.put, pA, pB, pC]
    refine tK 1 45 rfl ?_
    try simp only [Act.put, pA, pB, pC]
    refine tK 2 46 rfl ?_
    try simp only [Act.put, pA, pB, pC]
    refine tK 3 47 rfl ?_
    try simp only [Act.put, pA, pB, pC]
    refine tK 4 48 rfl ?_
    try simp only [Act.put, pA, pB, pC]
    refine tK 5 49 rfl ?_
    try simp only [Act.put, pA, pB, pC]
    refine tK 6 50 rfl ?_
    try simp only [Act.put, pA, pB, pC]
    refine tK 7 51 rfl ?_
    try simp only [Act.put, pA, pB, pC]
    refine tK 8 52 rfl ?_
    try simp only [Act.put, pA, pB, pC]
    refine tK 9 53 rfl ?_
    try simp only [Act.put, pA, pB, pC]
    refine tK 10 54 rfl ?_
    try simp only [Act.put, pA, pB, pC]
    refine tK 11 55 rfl ?_
    try simp only [Act.put, pA, pB, pC]
    refine hO 12 none rfl fun K hK => ?_
    go_simp
    generalize (((((w4.setCell ⟨x, 9, none⟩ (.int .i64 pn.s)).setCell ⟨x, 10, none⟩ (.int .i64 pn.o)).setCell ⟨x, 11, none⟩ (.int .i64 pn.l)).setCell ⟨x, 12, none⟩ (.int .i64 pn.v)).setCell ⟨x, 13, none⟩ (.int .i64 pn.m)).drew = wA at HSA HKA ⊢
    have HWA := hide (HWw4.out.kept HKA.out (by have := HSEP.out.1.1; simpa using this))
    have HBA := hide (HKA.out.blk HBw4.out (by have := HXB.out; simpa using fun h => this h.symm))
    have f14 := HSA.out.frozen 14
    have y14 := HSA.out.end_.2.2.2.2.2
    refine hK.out _ _ (by exact ⟨trivial, HBA.out.cell 0, HWA.out.place.1, HWA.out.place.2.1, HWA.out.place.2.2.1, HWA.out.place.2.2.2.1, HWA.out.place.2.2.2.2, HWA.out.rest.1⟩) (fun hHeld => ?_)
    clear hK K
    try simp only [Act.put, pA, pB, pC]
    refine tK 13 56 rfl ?_
    try simp only [Act.put, pA, pB, pC]
    refine tK 14 57 rfl ?_
    try simp only [Act.put, pA, pB, pC]
    refine hO 15 none rfl fun K hK => ?_
    go_simp
    have HSw5 := hide (HSA.out.setErr en)
    have HKB := hide ((Kept.refl [x] wA).set_ (b := x) (.inl (by simp)) 14 (.int .i64 en))
    generalize wA.setCell ⟨x, 14, none⟩ (.int .i64 en) = w5 at HSw5 HKB ⊢
    have HWw5 := hide (HWA.out.kept HKB.out (by have := HSEP.out.1.1; simpa using this))
    have HBw5 := hide (HKB.out.blk HBA.out (by have := HXB.out; simpa using fun h => this h.symm))
    have HKw5 := hide (HKA.out.trans HKB.out (by simp))
    refine hK.out _ _ (by exact ⟨trivial, HBw5.out.cell 0, HWw5.out.place.1, HWw5.out.place.2.1, HWw5.out.place.2.2.1, HWw5.out.place.2.2.2.1, HWw5.out.place.2.2.2.2, HWw5.out.rest.1⟩) (fun hHeld => ?_)
    clear hK K
    try simp only [Act.put, pA, pB, pC]
    refine wpAnyH_done (by kernel_rfl) ?_ _
    refine NoPanic.normal ?_
    clear y0 y1 y2 y3 y4 y5 f9 f10 f11 f12 f13 f14 y14 q0 q1 q2 q3 q4 q5 b0 HSA HKA HWA HBA HKB
    have HK5 := hide (HKw4.out.trans HKw5.out (by simp))
    have HKW5 := hide (HKW3.out.trans HK5.out (by simp))
    have HNw5 := hide (HN.out _ _ _ _ _ _ HNw3.out HK5.out (by simp))
    have HVw5 := hide (HVw3.out.kept HK5.out (by have := HXF.out; intro y hy hm; simp at hm; subst hm; exact this hy))
    gi_wp2
    go_roundw
    case rel => exact .inr ⟨rfl, hide ⟨HKW5.out, q, C, HAPP.out, HVw5.out, .inl ⟨by rw [HPL.out.1]; exact HNw5.out, by rw [HPL.out.2.1, HPL.out.2.2]; exact HSw5.out⟩⟩⟩
    case measure => rw [HMU.out, muOf_at HWw5.out false, HPN.out]; simp
   | false =>
    have her : er = 0 := by cases haf with | on => rfl
    subst her
    have hox : pk.o ≠ 0 := by cases haf with | on f h1 => exact h1
    have HOX := sealed hox
    have HAF := sealed haf
    have HQCC := hide (HC.out _ _ _ _ hn)
    have HXS := hide hsc.lt
    have HWL := hide hwk.lt
    have HFQ := hide (show ∀ y ∈ F, y < wr.heap.size from fun y hy => Nat.lt_of_lt_of_le (HF.out y hy) hkw.size)
    have HCN := hide (wnext_any ((q :: x :: I0) ++ C ++ F) F D HD.out q dv a z pk wr hwk hdv HSEP.out.2 HA.out HZ.out hox (fun y hy => by
     rcases List.mem_append.1 hy with hy | hy
     ·rcases List.mem_append.1 hy with hy | hy
      ·rcases List.mem_cons.1 hy with rfl | hy
       ·exact HWL.out
       rcases List.mem_cons.1 hy with rfl | hy
       ·exact HXS.out
       ·exact Nat.lt_of_lt_of_le (HI0.out y hy) hkw.size
      ·exact HQCC.out y hy
     ·exact HFQ.out y hy))
    clear haf hox
    gi_wp2_with (refine ⟨trivial, (by intro h; cases h), ?_⟩; gi_at_call 161; refine (callsIn_wide.2 HCN.out).mono ?_; rintro e w2 ⟨(⟨R, sm, L, m, lc, P, k, pc, hfo, rfl, hrc, hw2⟩ | ⟨e2, hfo, rfl, hw2⟩), hk2⟩ <;> clear HCN q0 q1 q2 q3 q4)
    ·have haf := HAF.out
     have hk3 := (Kept.refl [] w2).alloc (.cells #[.int .i64 R.m, .int .i64 R.l, .int .i64 R.p, .slice L m lc, .slice P k pc] 77)
     have HWw3 := hide (hw2.kept hk3 (by simp))
     have HSw3 := hide ((hsc.kept hk2 (by have := HSEP.out.1.1; simpa using fun h => this h.symm)).kept hk3 (by simp))
     have HBw3 := hide (hk3.blk (hk2.blk hbx (by have := HSEP.out.1.2; simpa using fun h => this h.symm)) (by simp))
     have HNw3 := hide (HN.out _ _ _ _ _ _ (HN.out _ _ _ _ _ _ hn hk2 (by simp)) hk3 (by simp))
     have HVw3 := hide ((hdv.kept hk2 (by have := HSEP.out.2; intro y hy hm; simp at hm; subst hm; exact this hy)).kept hk3 (by simp))
     have HRw3 := hide (hrc.kept hk3 (by simp))
     have hrr := Blk.new w2 77 #[.int .i64 R.m, .int .i64 R.l, .int .i64 R.p, .slice L m lc, .slice P k pc]
     obtain ⟨rr, hrn⟩ : ∃ rr, w2.heap.size = rr := ⟨_, rfl⟩
     rw [hrn] at hrr
     have HRR := hide hrr
     have HXR := hide (show x < rr by have := (hsc.kept hk2 (by have := HSEP.out.1.1; simpa using fun h => this h.symm)).lt; omega)
     have HSZ3 := hide (show W.heap.size ≤ (w2.alloc (.cells #[.int .i64 R.m, .int .i64 R.l, .int .i64 R.p, .slice L m lc, .slice P k pc] 77)).heap.size from Nat.le_trans hkw.size (Nat.le_trans hk2.size hk3.size))
     have HKW3 := hide ((hkw.trans hk2 (fun i hi => by simp at hi; subst hi; exact .inr HQ.out)).trans hk3 (by simp))
     have HCC := hide hcc
     have HMU := hide (muOf_at hwk true)
     have HAPP := hide hap
     have HQC := hide hqc
     obtain ⟨haf2, hpre⟩ := after_some haf hfo
     have HAF2 := sealed haf2
     have HPRE := hide hpre
     have hfi := follow_in hfo
     have HFO := sealed hfo
     have HGT := hide (show (z - (behind pk R sm).o).toNat < (z - pk.o).toNat by unfold behind lenOf; dsimp only; omega)
     clear hk3 hk2 hw2 hsc hbx hn hqc hdv hap hwk hkw hcc hrc hrr haf haf2 hpre hfi hfo
     generalize hpn : behind pk R sm = pn at HWw3 HGT HAF2
     obtain ⟨en, hen⟩ : ∃ en : Int, en = 0 := ⟨_, rfl⟩
     have HEN := hide hen
     rw [← hen] at HWw3 HAF2
     have HPB := sealed hpn
     clear hpn hen
     generalize w2.alloc (.cells #[.int .i64 R.m, .int .i64 R.l, .int .i64 R.p, .slice L m lc, .slice P k pc] 77) = w3 at HWw3 HSw3 HBw3 HNw3 HVw3 HRw3 HRR HSZ3 HKW3 ⊢
     obtain ⟨y0, y1, y2, y3, y4, y5⟩ := HSw3.out.end_
     have f9 := HSw3.out.frozen 9
     have f10 := HSw3.out.frozen 10
     have f11 := HSw3.out.frozen 11
     have f12 := HSw3.out.frozen 12
     have f13 := HSw3.out.frozen 13
     obtain ⟨q0, q1, q2, q3, q4⟩ := HWw3.out.place
     have q5 := HWw3.out.rest.1
     have b0 : w3.cell? ⟨Bs, 0, none⟩ = some (.pointer (some ⟨x, 0, none⟩)) := HBw3.out.cell 0
     have HSA := hide ((HSw3.out.setEnd pn).kept (Kept.refl [] _).drew (by simp))
     have HKA := hide (((((((Kept.refl [x] w3).set_ (b := x) (.inl (by simp)) 9 (.int .i64 pn.s)).set_ (b := x) (.inl (by simp)) 10 (.int .i64 pn.o)).set_ (b := x) (.inl (by simp)) 11 (.int .i64 pn.l)).set_ (b := x) (.inl (by simp)) 12 (.int .i64 pn.v)).set_ (b := x) (.inl (by simp)) 13 (.int .i64 pn.m)).drew)
     refine wpIn_wide.2 ?_
     refine wp_region_noPanic ?_
     refine wp_region_held_drew (S := fun W => True ∧ W.cell? ⟨Bs, 0, none⟩ = some (.pointer (some ⟨x, 0, none⟩)) ∧ W.cell? ⟨q, 3, none⟩ = some (.int .i64 pn.s) ∧ W.cell? ⟨q, 4, none⟩ = some (.int .i64 pn.o) ∧ W.cell? ⟨q, 5, none⟩ = some (.int .i64 pn.l) ∧ W.cell? ⟨q, 6, none⟩ = some (.int .i64 pn.v) ∧ W.cell? ⟨q, 7, none⟩ = some (.int .i64 pn.m) ∧ W.cell? ⟨q, 8, none⟩ = some (.int .i64 en)) (by kernel_rfl) (by exact ⟨trivial, b0, q0, q1, q2, q3, q4, q5⟩) (fun hHeld => ?_)
     refine tK 0 23 rfl ?_
     try simp only [Act.put, pA, pB, pC]
     refine tK 1 24 rfl ?_
     try simp only [Act.put, pA, pB, pC]
     refine tK 2 25 rfl ?_
     try simp only [Act.put, pA, pB, pC]
     refine tK 3 26 rfl ?_
     try simp only [Act.put, pA, pB, pC]
     refine tK 4 27 rfl ?_
     try simp only [Act.put, pA, pB, pC]
     refine tK 5 28 rfl ?_
     try simp only [Act.put, pA, pB, pC]
     refine tK 6 29 rfl ?_
     try simp only [Act.put, pA, pB, pC]
     refine tK 7 30 rfl ?_
     try simp only [Act.put, pA, pB, pC]
     refine tK 8 31 rfl ?_
     try simp only [Act.put, pA, pB, pC]
     refine tK 9 32 rfl ?_
     try simp only [Act.put, pA, pB, pC]
     refine tK 10 33 rfl ?_
     try simp only [Act.put, pA, pB, pC]
     refine tK 11 34 rfl ?_
     try simp only [Act.put, pA, pB, pC]
     refine hO 12 none rfl fun K hK => ?_
     go_simp
     generalize (((((w3.setCell ⟨x, 9, none⟩ (.int .i64 pn.s)).setCell ⟨x, 10, none⟩ (.int .i64 pn.o)).setCell ⟨x, 11, none⟩ (.int .i64 pn.l)).setCell ⟨x, 12, none⟩ (.int .i64 pn.v)).setCell ⟨x, 13, none⟩ (.int .i64 pn.m)).drew = wA at HSA HKA ⊢
     have HWA := hide (HWw3.out.kept HKA.out (by have := HSEP.out.1.1; simpa using this))
     have HBA := hide (HKA.out.blk HBw3.out (by have := HXB.out; simpa using fun h => this h.symm))
     have f14 := HSA.out.frozen 14
     have y14 := HSA.out.end_.2.2.2.2.2
     refine hK.out _ _ (by exact ⟨trivial, HBA.out.cell 0, HWA.out.place.1, HWA.out.place.2.1, HWA.out.place.2.2.1, HWA.out.place.2.2.2.1, HWA.out.place.2.2.2.2, HWA.out.rest.1⟩) (fun hHeld => ?_)
     clear hK K
     try simp only [Act.put, pA, pB, pC]
     refine tK 13 35 rfl ?_
     try simp only [Act.put, pA, pB, pC]
     refine tK 14 36 rfl ?_
     try simp only [Act.put, pA, pB, pC]
     refine hO 15 none rfl fun K hK => ?_
     go_simp
     have HSw4 := hide (HSA.out.setErr en)
     have HKB := hide ((Kept.refl [x] wA).set_ (b := x) (.inl (by simp)) 14 (.int .i64 en))
     generalize wA.setCell ⟨x, 14, none⟩ (.int .i64 en) = w4 at HSw4 HKB ⊢
     have HWw4 := hide (HWA.out.kept HKB.out (by have := HSEP.out.1.1; simpa using this))
     have HBw4 := hide (HKB.out.blk HBA.out (by have := HXB.out; simpa using fun h => this h.symm))
     have HKw4 := hide (HKA.out.trans HKB.out (by simp))
     refine hK.out _ _ (by exact ⟨trivial, HBw4.out.cell 0, HWw4.out.place.1, HWw4.out.place.2.1, HWw4.out.place.2.2.1, HWw4.out.place.2.2.2.1, HWw4.out.place.2.2.2.2, HWw4.out.rest.1⟩) (fun hHeld => ?_)
     clear hK K
     try simp only [Act.put, pA, pB, pC]
     refine wpAnyH_done (by kernel_rfl) ?_ _
     refine NoPanic.normal ?_
     clear y0 y1 y2 y3 y4 y5 f9 f10 f11 f12 f13 f14 y14 q0 q1 q2 q3 q4 q5 b0 HSA HKA HWA HBA HKB
     have HNw4 := hide (HN.out _ _ _ _ _ _ HNw3.out HKw4.out (by simp))
     have HVw4 := hide (HVw3.out.kept HKw4.out (by have := HXF.out; intro y hy hm; simp at hm; subst hm; exact this hy))
     have HRw4 := hide (HRw3.out.kept HKw4.out (by simp))
     have HRR4 := hide (HKw4.out.blk HRR.out (by have := HXR.out; simp; omega))
     have HSZ4 := hide (Nat.le_trans HSZ3.out HKw4.out.size)
     have HKW4 := hide (HKW3.out.trans HKw4.out (by simp))
     obtain ⟨r0, r1, r2, r3, r4⟩ := cell5 HRR4.out
     clear HNw3 HVw3 HRw3 HRR HSZ3 HKW3 HKw4 HWw3 HSw3 HBw3
     obtain ⟨fn, tmps, assign, body, hy, hR⟩ := HY.out q pre C w4 pk R L m lc P k pc HNw4.out HPRE.out HRw4.out (List.forall_mem_cons.2 ⟨HWw4.out.lt, List.forall_mem_cons.2 ⟨HSw4.out.lt, fun y hy => Nat.lt_of_lt_of_le (HI0.out y hy) HSZ4.out⟩⟩) ⟨sm, HFO.out, by rw [HPB.out, ← HEN.out]; exact HSw4.out⟩
     gi_wp2
     refine ⟨(by intro h; cases h), ?_⟩
     refine hR.mono ?_
     rintro e w6 ⟨C', hC', hk6, (⟨rfl, hn6⟩ | ⟨rfl, hn6⟩)⟩
     all_goals
      have HC6 := hide hC'
      have HWw6 := hide (HWw4.out.kept hk6 HQC.out)
      have HSw6 := hide (HSw4.out.kept hk6 HAPP.out.x)
      have HBw6 := hide (hk6.blk HBw4.out HAPP.out.b)
      have HVw6 := hide (HVw4.out.kept hk6 HAPP.out.f)
      have HNw6 := hide hn6
      have HSZ6 := hide (Nat.le_trans HSZ4.out hk6.size)
      have HKW6 := hide (HKW4.out.trans hk6 (fun i hi => (HCC.out i hi).imp (fun h => by simp [h]) id))
      have HCC6 : Hid (∀ y ∈ C', y ∈ C0 ∨ W.heap.size ≤ y) := hide (fun y hy => (hC' y hy).elim (HCC.out y) (fun h => .inr (Nat.le_trans HSZ4.out h)))
      have HAP6 := hide (HAPP.out.next hC' HBw4.out.lt HSw4.out.lt (fun y hy => Nat.lt_of_lt_of_le (HF.out y hy) HSZ4.out))
      have HQC6 := hide (show q ∉ C' from fun hm => (hC' q hm).elim HQC.out (fun h1 => by have := HWw4.out.lt; omega))
      clear hC' hk6 hn6 r0 r1 r2 r3 r4 HWw4 HSw4 HBw4 HVw4 HNw4 HRw4 HRR4 HSZ4 HC6 HKW4 HCC
     ·obtain ⟨y0, y1, y2, y3, y4, y5⟩ := HSw6.out.end_
      have f9 := HSw6.out.frozen 9
      have f10 := HSw6.out.frozen 10
      have f11 := HSw6.out.frozen 11
      have f12 := HSw6.out.frozen 12
      have f13 := HSw6.out.frozen 13
      obtain ⟨q0, q1, q2, q3, q4⟩ := HWw6.out.place
      have q5 := HWw6.out.rest.1
      have b0 : w6.cell? ⟨Bs, 0, none⟩ = some (.pointer (some ⟨x, 0, none⟩)) := HBw6.out.cell 0
      have HSA := hide ((HSw6.out.setEnd pn).kept (Kept.refl [] _).drew (by simp))
      have HKA := hide (((((((Kept.refl [x] w6).set_ (b := x) (.inl (by simp)) 9 (.int .i64 pn.s)).set_ (b := x) (.inl (by simp)) 10 (.int .i64 pn.o)).set_ (b := x) (.inl (by simp)) 11 (.int .i64 pn.l)).set_ (b := x) (.inl (by simp)) 12 (.int .i64 pn.v)).set_ (b := x) (.inl (by simp)) 13 (.int .i64 pn.m)).drew)
      gi_wp2
      refine wpIn_wide.2 ?_
      refine wp_region_noPanic ?_
      refine wp_region_held_drew (S := fun W => True ∧ W.cell? ⟨Bs, 0, none⟩ = some (.pointer (some ⟨x, 0, none⟩)) ∧ W.cell? ⟨q, 3, none⟩ = some (.int .i64 pn.s) ∧ W.cell? ⟨q, 4, none⟩ = some (.int .i64 pn.o) ∧ W.cell? ⟨q, 5, none⟩ = some (.int .i64 pn.l) ∧ W.cell? ⟨q, 6, none⟩ = some (.int .i64 pn.v) ∧ W.cell? ⟨q, 7, none⟩ = some (.int .i64 pn.m) ∧ W.cell? ⟨q, 8, none⟩ = some (.int .i64 en)) (by kernel_rfl) (by exact ⟨trivial, b0, q0, q1, q2, q3, q4, q5⟩) (fun hHeld => ?_)
      refine tK 0 44 rfl ?_
      try simp only [Act.put, pA, pB, pC]
      refine tK 1 45 rfl ?_
      try simp only [Act.put, pA, pB, pC]
      refine tK 2 46 rfl ?_
      try simp only [Act.put, pA, pB, pC]
      refine tK 3 47 rfl ?_
      try simp only [Act.put, pA, pB, pC]
      refine tK 4 48 rfl ?_
      try simp only [Act.put, pA, pB, pC]
      refine tK 5 49 rfl ?_
      try simp only [Act.put, pA, pB, pC]
      refine tK 6 50 rfl ?_
      try simp only [Act.put, pA, pB, pC]
      refine tK 7 51 rfl ?_
      try simp only [Act.put, pA, pB, pC]
      refine tK 8 52 rfl ?_
      try simp only [Act.put, pA, pB, pC]
      refine tK 9 53 rfl ?_
      try simp only [Act.put, pA, pB, pC]
      refine tK 10 54 rfl ?_
      try simp only [Act.put, pA, pB, pC]
      refine tK 11 55 rfl ?_
      try simp only [Act.put, pA, pB, pC]
      refine hO 12 none rfl fun K hK => ?_
      go_simp
      generalize (((((w6.setCell ⟨x, 9, none⟩ (.int .i64 pn.s)).setCell ⟨x, 10, none⟩ (.int .i64 pn.o)).setCell ⟨x, 11, none⟩ (.int .i64 pn.l)).setCell ⟨x, 12, none⟩ (.int .i64 pn.v)).setCell ⟨x, 13, none⟩ (.int .i64 pn.m)).drew = wA at HSA HKA ⊢
      have HWA := hide (HWw6.out.kept HKA.out (by have := HSEP.out.1.1; simpa using this))
      have HBA := hide (HKA.out.blk HBw6.out (by have := HXB.out; simpa using fun h => this h.symm))
      have f14 := HSA.out.frozen 14
      have y14 := HSA.out.end_.2.2.2.2.2
      refine hK.out _ _ (by exact ⟨trivial, HBA.out.cell 0, HWA.out.place.1, HWA.out.place.2.1, HWA.out.place.2.2.1, HWA.out.place.2.2.2.1, HWA.out.place.2.2.2.2, HWA.out.rest.1⟩) (fun hHeld => ?_)
      clear hK K
      try simp only [Act.put, pA, pB, pC]
      refine tK 13 56 rfl ?_
      try simp only [Act.put, pA, pB, pC]
      refine tK 14 57 rfl ?_
      try simp only [Act.put, pA, pB, pC]
      refine hO 15 none rfl fun K hK => ?_
      go_simp
      have HSw7 := hide (HSA.out.setErr en)
      have HKB := hide ((Kept.refl [x] wA).set_ (b := x) (.inl (by simp)) 14 (.int .i64 en))
      generalize wA.setCell ⟨x, 14, none⟩ (.int .i64 en) = w7 at HSw7 HKB ⊢
      have HWw7 := hide (HWA.out.kept HKB.out (by have := HSEP.out.1.1; simpa using this))
      have HBw7 := hide (HKB.out.blk HBA.out (by have := HXB.out; simpa using fun h => this h.symm))
      have HKw7 := hide (HKA.out.trans HKB.out (by simp))
      refine hK.out _ _ (by exact ⟨trivial, HBw7.out.cell 0, HWw7.out.place.1, HWw7.out.place.2.1, HWw7.out.place.2.2.1, HWw7.out.place.2.2.2.1, HWw7.out.place.2.2.2.2, HWw7.out.rest.1⟩) (fun hHeld => ?_)
      clear hK K
      try simp only [Act.put, pA, pB, pC]
      refine wpAnyH_done (by kernel_rfl) ?_ _
      refine NoPanic.normal ?_
      clear y0 y1 y2 y3 y4 y5 f9 f10 f11 f12 f13 f14 y14 q0 q1 q2 q3 q4 q5 b0 HSA HKA HWA HBA HKB
      have HNw7 := hide (HN.out _ _ _ _ _ _ HNw6.out HKw7.out (by simp))
      have HVw7 := hide (HVw6.out.kept HKw7.out (by have := HXF.out; intro y hy hm; simp at hm; subst hm; exact this hy))
      have HKW7 := hide (HKW6.out.trans HKw7.out (by simp))
      gi_wp2
      go_roundw
      case rel => exact .inl ⟨rfl, hide ⟨_, _, _, _, C', _, _, by have := HAF2.out; rw [HEN.out] at this; exact this, by have := HWw7.out; rw [HEN.out] at this; exact this, HSw7.out, HNw7.out, ⟨HAP6.out, HQC6.out⟩, HVw7.out, HBw7.out, HKW7.out, HCC6.out⟩⟩
      case measure => rw [HMU.out, muOf_at HWw7.out true]; have := HGT.out; simp; omega
     ·obtain ⟨y0, y1, y2, y3, y4, y5⟩ := HSw6.out.end_
      have f9 := HSw6.out.frozen 9
      have f10 := HSw6.out.frozen 10
      have f11 := HSw6.out.frozen 11
      have f12 := HSw6.out.frozen 12
      have f13 := HSw6.out.frozen 13
      obtain ⟨q0, q1, q2, q3, q4⟩ := HWw6.out.place
      have q5 := HWw6.out.rest.1
      have b0 : w6.cell? ⟨Bs, 0, none⟩ = some (.pointer (some ⟨x, 0, none⟩)) := HBw6.out.cell 0
      have HSA := hide ((HSw6.out.setEnd pn).kept (Kept.refl [] _).drew (by simp))
      have HKA := hide (((((((Kept.refl [x] w6).set_ (b := x) (.inl (by simp)) 9 (.int .i64 pn.s)).set_ (b := x) (.inl (by simp)) 10 (.int .i64 pn.o)).set_ (b := x) (.inl (by simp)) 11 (.int .i64 pn.l)).set_ (b := x) (.inl (by simp)) 12 (.int .i64 pn.v)).set_ (b := x) (.inl (by simp)) 13 (.int .i64 pn.m)).drew)
      gi_wp2
      refine wpIn_wide.2 ?_
      refine wp_region_noPanic ?_
      refine wp_region_held_drew (S := fun W => True ∧ W.cell? ⟨Bs, 0, none⟩ = some (.pointer (some ⟨x, 0, none⟩)) ∧ W.cell? ⟨q, 3, none⟩ = some (.int .i64 pn.s) ∧ W.cell? ⟨q, 4, none⟩ = some (.int .i64 pn.o) ∧ W.cell? ⟨q, 5, none⟩ = some (.int .i64 pn.l) ∧ W.cell? ⟨q, 6, none⟩ = some (.int .i64 pn.v) ∧ W.cell? ⟨q, 7, none⟩ = some (.int .i64 pn.m) ∧ W.cell? ⟨q, 8, none⟩ = some (.int .i64 en)) (by kernel_rfl) (by exact ⟨trivial, b0, q0, q1, q2, q3, q4, q5⟩) (fun hHeld => ?_)
      refine tK 0 44 rfl ?_
      try simp only [Act.put, pA, pB, pC]
      refine tK 1 45 rfl ?_
      try simp only [Act.put, pA, pB, pC]
      refine tK 2 46 rfl ?_
      try simp only [Act.put, pA, pB, pC]
      refine tK 3 47 rfl ?_
      try simp only [Act.put, pA, pB, pC]
      refine tK 4 48 rfl ?_
      try simp only [Act.put, pA, pB, pC]
      refine tK 5 49 rfl ?_
      try simp only [Act.put, pA, pB, pC]
      refine tK 6 50 rfl ?_
      try simp only [Act.put, pA, pB, pC]
      refine tK 7 51 rfl ?_
      try simp only [Act.put, pA, pB, pC]
      refine tK 8 52 rfl ?_
      try simp only [Act.put, pA, pB, pC]
      refine tK 9 53 rfl ?_
      try simp only [Act.put, pA, pB, pC]
      refine tK 10 54 rfl ?_
      try simp only [Act.put, pA, pB, pC]
      refine tK 11 55 rfl ?_
      try simp only [Act.put, pA, pB, pC]
      refine hO 12 none rfl fun K hK => ?_
      go_simp
      generalize (((((w6.setCell ⟨x, 9, none⟩ (.int .i64 pn.s)).setCell ⟨x, 10, none⟩ (.int .i64 pn.o)).setCell ⟨x, 11, none⟩ (.int .i64 pn.l)).setCell ⟨x, 12, none⟩ (.int .i64 pn.v)).setCell ⟨x, 13, none⟩ (.int .i64 pn.m)).drew = wA at HSA HKA ⊢
      have HWA := hide (HWw6.out.kept HKA.out (by have := HSEP.out.1.1; simpa using this))
      have HBA := hide (HKA.out.blk HBw6.out (by have := HXB.out; simpa using fun h => this h.symm))
      have f14 := HSA.out.frozen 14
      have y14 := HSA.out.end_.2.2.2.2.2
      refine hK.out _ _ (by exact ⟨trivial, HBA.out.cell 0, HWA.out.place.1, HWA.out.place.2.1, HWA.out.place.2.2.1, HWA.out.place.2.2.2.1, HWA.out.place.2.2.2.2, HWA.out.rest.1⟩) (fun hHeld => ?_)
      clear hK K
      try simp only [Act.put, pA, pB, pC]
      refine tK 13 56 rfl ?_
      try simp only [Act.put, pA, pB, pC]
      refine tK 14 57 rfl ?_
      try simp only [Act.put, pA, pB, pC]
      refine hO 15 none rfl fun K hK => ?_
      go_simp
      have HSw7 := hide (HSA.out.setErr en)
      have HKB := hide ((Kept.refl [x] wA).set_ (b := x) (.inl (by simp)) 14 (.int .i64 en))
      generalize wA.setCell ⟨x, 14, none⟩ (.int .i64 en) = w7 at HSw7 HKB ⊢
      have HWw7 := hide (HWA.out.kept HKB.out (by have := HSEP.out.1.1; simpa using this))
      have HBw7 := hide (HKB.out.blk HBA.out (by have := HXB.out; simpa using fun h => this h.symm))
      have HKw7 := hide (HKA.out.trans HKB.out (by simp))
      refine hK.out _ _ (by exact ⟨trivial, HBw7.out.cell 0, HWw7.out.place.1, HWw7.out.place.2.1, HWw7.out.place.2.2.1, HWw7.out.place.2.2.2.1, HWw7.out.place.2.2.2.2, HWw7.out.rest.1⟩) (fun hHeld => ?_)
      clear hK K
      try simp only [Act.put, pA, pB, pC]
      refine wpAnyH_done (by kernel_rfl) ?_ _
      refine NoPanic.normal ?_
      clear y0 y1 y2 y3 y4 y5 f9 f10 f11 f12 f13 f14 y14 q0 q1 q2 q3 q4 q5 b0 HSA HKA HWA HBA HKB
      have HNw7 := hide (HNX.out _ _ _ _ _ _ HNw6.out HKw7.out (by simp))
      have HVw7 := hide (HVw6.out.kept HKw7.out (by have := HXF.out; intro y hy hm; simp at hm; subst hm; exact this hy))
      have HKW7 := hide (HKW6.out.trans HKw7.out (by simp))
      gi_wp2
      go_roundw
      case rel => exact .inr ⟨rfl, hide ⟨HKW7.out, q, C', HAP6.out, HVw7.out, .inr ⟨_, pn, _, HPRE.out, by simp, by have := HAF2.out; rw [HEN.out] at this; exact this, HNw7.out, by have := HSw7.out; rw [HEN.out] at this; exact this⟩⟩⟩
      case measure => rw [HMU.out, muOf_at HWw7.out false]; have := HGT.out; simp; omega
    ·have HPL : Hid (l = pre ∧ E = pk ∧ err = e2) := hide (after_none HAF.out hfo)
     clear hfo
     obtain ⟨pn, hpn⟩ : ∃ pn, pn = pk := ⟨_, rfl⟩
     obtain ⟨en, hen⟩ : ∃ en, en = e2 := ⟨_, rfl⟩
     have HPN := sealed hpn
     rw [← hpn, ← hen] at HPL hw2
     clear hen hpn
     have hk3 := (Kept.refl [] w2).alloc (.cells #[.int .i64 0, .int .i64 0, .int .i64 0, .slice none 0 0, .slice none 0 0] 77)
     have HWw3 := hide (hw2.kept hk3 (by simp))
     have HSw3 := hide ((hsc.kept hk2 (by have := HSEP.out.1.1; simpa using fun h => this h.symm)).kept hk3 (by simp))
     have HBw3 := hide (hk3.blk (hk2.blk hbx (by have := HSEP.out.1.2; simpa using fun h => this h.symm)) (by simp))
     have HNw3 := hide (HN.out _ _ _ _ _ _ (HN.out _ _ _ _ _ _ hn hk2 (by simp)) hk3 (by simp))
     have HVw3 := hide ((hdv.kept hk2 (by have := HSEP.out.2; intro y hy hm; simp at hm; subst hm; exact this hy)).kept hk3 (by simp))
     have HMU := hide (muOf_at hwk true)
     have HAPP := hide hap
     have HKW3 := hide ((hkw.trans hk2 (fun i hi => by simp at hi; subst hi; exact .inr HQ.out)).trans hk3 (by simp))
     clear hk3 hk2 hw2 hsc hbx hn hqc hdv hap hwk hkw hcc
     generalize w2.alloc (.cells #[.int .i64 0, .int .i64 0, .int .i64 0, .slice none 0 0, .slice none 0 0] 77) = w3 at HWw3 HSw3 HBw3 HNw3 HVw3 HKW3 ⊢
     obtain ⟨y0, y1, y2, y3, y4, y5⟩ := HSw3.out.end_
     have f9 := HSw3.out.frozen 9
     have f10 := HSw3.out.frozen 10
     have f11 := HSw3.out.frozen 11
     have f12 := HSw3.out.frozen 12
     have f13 := HSw3.out.frozen 13
     obtain ⟨q0, q1, q2, q3, q4⟩ := HWw3.out.place
     have q5 := HWw3.out.rest.1
     have b0 : w3.cell? ⟨Bs, 0, none⟩ = some (.pointer (some ⟨x, 0, none⟩)) := HBw3.out.cell 0
     have HSA := hide ((HSw3.out.setEnd pn).kept (Kept.refl [] _).drew (by simp))
     have HKA := hide (((((((Kept.refl [x] w3).set_ (b := x) (.inl (by simp)) 9 (.int .i64 pn.s)).set_ (b := x) (.inl (by simp)) 10 (.int .i64 pn.o)).set_ (b := x) (.inl (by simp)) 11 (.int .i64 pn.l)).set_ (b := x) (.inl (by simp)) 12 (.int .i64 pn.v)).set_ (b := x) (.inl (by simp)) 13 (.int .i64 pn.m)).drew)
     refine wpIn_wide.2 ?_
     refine wp_region_noPanic ?_
     refine wp_region_held_drew (S := fun W => True ∧ W.cell? ⟨Bs, 0, none⟩ = some (.pointer (some ⟨x, 0, none⟩)) ∧ W.cell? ⟨q, 3, none⟩ = some (.int .i64 pn.s) ∧ W.cell? ⟨q, 4, none⟩ = some (.int .i64 pn.o) ∧ W.cell? ⟨q, 5, none⟩ = some (.int .i64 pn.l) ∧ W.cell? ⟨q, 6, none⟩ = some (.int .i64 pn.v) ∧ W.cell? ⟨q, 7, none⟩ = some (.int .i64 pn.m) ∧ W.cell? ⟨q, 8, none⟩ = some (.int .i64 en)) (by kernel_rfl) (by exact ⟨trivial, b0, q0, q1, q2, q3, q4, q5⟩) (fun hHeld => ?_)
     refine tK 0 23 rfl ?_
     try simp only [Act.put, pA, pB, pC]
     refine tK 1 24 rfl ?_
     try simp only [Act.put, pA, pB, pC]
     refine tK 2 25 rfl ?_
     try simp only [Act.put, pA, pB, pC]
     refine tK 3 26 rfl ?_
     try simp only [Act.put, pA, pB, pC]
     refine tK 4 27 rfl ?_
     try simp only [Act.put, pA, pB, pC]
     refine tK 5 28 rfl ?_
     try simp only [Act.put, pA, pB, pC]
     refine tK 6 29 rfl ?_
     try simp only [Act.put, pA, pB, pC]
     refine tK 7 30 rfl ?_
     try simp only [Act.put, pA, pB, pC]
     refine tK 8 31 rfl ?_
     try simp only [Act.put, pA, pB, pC]
     refine tK 9 32 rfl ?_
     try simp only [Act.put, pA, pB, pC]
     refine tK 10 33 rfl ?_
     try simp only [Act.put, pA, pB, pC]
     refine tK 11 34 rfl ?_
     try simp only [Act.put, pA, pB, pC]
     refine hO 12 none rfl fun K hK => ?_
     go_simp
     generalize (((((w3.setCell ⟨x, 9, none⟩ (.int .i64 pn.s)).setCell ⟨x, 10, none⟩ (.int .i64 pn.o)).setCell ⟨x, 11, none⟩ (.int .i64 pn.l)).setCell ⟨x, 12, none⟩ (.int .i64 pn.v)).setCell ⟨x, 13, none⟩ (.int .i64 pn.m)).drew = wA at HSA HKA ⊢
     have HWA := hide (HWw3.out.kept HKA.out (by have := HSEP.out.1.1; simpa using this))
     have HBA := hide (HKA.out.blk HBw3.out (by have := HXB.out; simpa using fun h => this h.symm))
     have f14 := HSA.out.frozen 14
     have y14 := HSA.out.end_.2.2.2.2.2
     refine hK.out _ _ (by exact ⟨trivial, HBA.out.cell 0, HWA.out.place.1, HWA.out.place.2.1, HWA.out.place.2.2.1, HWA.out.place.2.2.2.1, HWA.out.place.2.2.2.2, HWA.out.rest.1⟩) (fun hHeld => ?_)
     clear hK K
     try simp only [Act.put, pA, pB, pC]
     refine tK 13 35 rfl ?_
     try simp only [Act.put, pA, pB, pC]
     refine tK 14 36 rfl ?_
     try simp only [Act.put, pA, pB, pC]
     refine hO 15 none rfl fun K hK => ?_
     go_simp
     have HSw4 := hide (HSA.out.setErr en)
     have HKB := hide ((Kept.refl [x] wA).set_ (b := x) (.inl (by simp)) 14 (.int .i64 en))
     generalize wA.setCell ⟨x, 14, none⟩ (.int .i64 en) = w4 at HSw4 HKB ⊢
     have HWw4 := hide (HWA.out.kept HKB.out (by have := HSEP.out.1.1; simpa using this))
     have HBw4 := hide (HKB.out.blk HBA.out (by have := HXB.out; simpa using fun h => this h.symm))
     have HKw4 := hide (HKA.out.trans HKB.out (by simp))
     refine hK.out _ _ (by exact ⟨trivial, HBw4.out.cell 0, HWw4.out.place.1, HWw4.out.place.2.1, HWw4.out.place.2.2.1, HWw4.out.place.2.2.2.1, HWw4.out.place.2.2.2.2, HWw4.out.rest.1⟩) (fun hHeld => ?_)
     clear hK K
     try simp only [Act.put, pA, pB, pC]
     refine wpAnyH_done (by kernel_rfl) ?_ _
     refine NoPanic.normal ?_
     clear y0 y1 y2 y3 y4 y5 f9 f10 f11 f12 f13 f14 y14 q0 q1 q2 q3 q4 q5 b0 HSA HKA HWA HBA HKB
     obtain ⟨y0, y1, y2, y3, y4, y5⟩ := HSw4.out.end_
     have f9 := HSw4.out.frozen 9
     have f10 := HSw4.out.frozen 10
     have f11 := HSw4.out.frozen 11
     have f12 := HSw4.out.frozen 12
     have f13 := HSw4.out.frozen 13
     obtain ⟨q0, q1, q2, q3, q4⟩ := HWw4.out.place
     have q5 := HWw4.out.rest.1
     have b0 : w4.cell? ⟨Bs, 0, none⟩ = some (.pointer (some ⟨x, 0, none⟩)) := HBw4.out.cell 0
     have HSA := hide ((HSw4.out.setEnd pn).kept (Kept.refl [] _).drew (by simp))
     have HKA := hide (((((((Kept.refl [x] w4).set_ (b := x) (.inl (by simp)) 9 (.int .i64 pn.s)).set_ (b := x) (.inl (by simp)) 10 (.int .i64 pn.o)).set_ (b := x) (.inl (by simp)) 11 (.int .i64 pn.l)).set_ (b := x) (.inl (by simp)) 12 (.int .i64 pn.v)).set_ (b := x) (.inl (by simp)) 13 (.int .i64 pn.m)).drew)
     gi_wp2
     refine ⟨fun _ h => (by cases h), ?_⟩
     gi_wp2
     refine wpIn_wide.2 ?_
     refine wp_region_noPanic ?_
     refine wp_region_held_drew (S := fun W => True ∧ W.cell? ⟨Bs, 0, none⟩ = some (.pointer (some ⟨x, 0, none⟩)) ∧ W.cell? ⟨q, 3, none⟩ = some (.int .i64 pn.s) ∧ W.cell? ⟨q, 4, none⟩ = some (.int .i64 pn.o) ∧ W.cell? ⟨q, 5, none⟩ = some (.int .i64 pn.l) ∧ W.cell? ⟨q, 6, none⟩ = some (.int .i64 pn.v) ∧ W.cell? ⟨q, 7, none⟩ = some (.int .i64 pn.m) ∧ W.cell? ⟨q, 8, none⟩ = some (.int .i64 en)) (by kernel_rfl) (by exact ⟨trivial, b0, q0, q1, q2, q3, q4, q5⟩) (fun hHeld => ?_)
     refine tK 0 44 rfl ?_
     try simp only [Act.put, pA, pB, pC]
     refine tK 1 45 rfl ?_
     try simp only [Act.put, pA, pB, pC]
     refine tK 2 46 rfl ?_
     try simp only [Act.put, pA, pB, pC]
     refine tK 3 47 rfl ?_
     try simp only [Act.put, pA, pB, pC]
     refine tK 4 48 rfl ?_
     try simp only [Act.put, pA, pB, pC]
     refine tK 5 49 rfl ?_
     try simp only [Act.put, pA, pB, pC]
     refine tK 6 50 rfl ?_
     try simp only [Act.put, pA, pB, pC]
     refine tK 7 51 rfl ?_
     try simp only [Act.put, pA, pB, pC]
     refine tK 8 52 rfl ?_
     try simp only [Act.put, pA, pB, pC]
     refine tK 9 53 rfl ?_
     try simp only [Act.put, pA, pB, pC]
     refine tK 10 54 rfl ?_
     try simp only [Act.put, pA, pB, pC]
     refine tK 11 55 rfl ?_
     try simp only [Act.put, pA, pB, pC]
     refine hO 12 none rfl fun K hK => ?_
     go_simp
     generalize (((((w4.setCell ⟨x, 9, none⟩ (.int .i64 pn.s)).setCell ⟨x, 10, none⟩ (.int .i64 pn.o)).setCell ⟨x, 11, none⟩ (.int .i64 pn.l)).setCell ⟨x, 12, none⟩ (.int .i64 pn.v)).setCell ⟨x, 13, none⟩ (.int .i64 pn.m)).drew = wA at HSA HKA ⊢
     have HWA := hide (HWw4.out.kept HKA.out (by have := HSEP.out.1.1; simpa using this))
     have HBA := hide (HKA.out.blk HBw4.out (by have := HXB.out; simpa using fun h => this h.symm))
     have f14 := HSA.out.frozen 14
     have y14 := HSA.out.end_.2.2.2.2.2
     refine hK.out _ _ (by exact ⟨trivial, HBA.out.cell 0, HWA.out.place.1, HWA.out.place.2.1, HWA.out.place.2.2.1, HWA.out.place.2.2.2.1, HWA.out.place.2.2.2.2, HWA.out.rest.1⟩) (fun hHeld => ?_)
     clear hK K
     try simp only [Act.put, pA, pB, pC]
     refine tK 13 56 rfl ?_
     try simp only [Act.put, pA, pB, pC]
     refine tK 14 57 rfl ?_
     try simp only [Act.put, pA, pB, pC]
     refine hO 15 none rfl fun K hK => ?_
     go_simp
     have HSw5 := hide (HSA.out.setErr en)
     have HKB := hide ((Kept.refl [x] wA).set_ (b := x) (.inl (by simp)) 14 (.int .i64 en))
     generalize wA.setCell ⟨x, 14, none⟩ (.int .i64 en) = w5 at HSw5 HKB ⊢
     have HWw5 := hide (HWA.out.kept HKB.out (by have := HSEP.out.1.1; simpa using this))
     have HBw5 := hide (HKB.out.blk HBA.out (by have := HXB.out; simpa using fun h => this h.symm))
     have HKw5 := hide (HKA.out.trans HKB.out (by simp))
     refine hK.out _ _ (by exact ⟨trivial, HBw5.out.cell 0, HWw5.out.place.1, HWw5.out.place.2.1, HWw5.out.place.2.2.1, HWw5.out.place.2.2.2.1, HWw5.out.place.2.2.2.2, HWw5.out.rest.1⟩) (fun hHeld => ?_)
     clear hK K
     try simp only [Act.put, pA, pB, pC]
     refine wpAnyH_done (by kernel_rfl) ?_ _
     refine NoPanic.normal ?_
     clear y0 y1 y2 y3 y4 y5 f9 f10 f11 f12 f13 f14 y14 q0 q1 q2 q3 q4 q5 b0 HSA HKA HWA HBA HKB
     have HK5 := hide (HKw4.out.trans HKw5.out (by simp))
     have HKW5 := hide (HKW3.out.trans HK5.out (by simp))
     have HNw5 := hide (HN.out _ _ _ _ _ _ HNw3.out HK5.out (by simp))
     have HVw5 := hide (HVw3.out.kept HK5.out (by have := HXF.out; intro y hy hm; simp at hm; subst hm; exact this hy))
     gi_wp2
     go_roundw
     case rel => exact .inr ⟨rfl, hide ⟨HKW5.out, q, C, HAPP.out, HVw5.out, .inl ⟨by rw [HPL.out.1]; exact HNw5.out, by rw [HPL.out.2.1, HPL.out.2.2]; exact HSw5.out⟩⟩⟩
     case measure => rw [HMU.out, muOf_at HWw5.out false, HPN.out]; simp
  ·gi_wp2
   go_end0
   exact ⟨⟨_, rfl⟩, HE.out⟩
end Go.Proofs.YtgifeilmidpkeaaGreat.sc
namespace Go.Proofs.YtgifeilmidpkeaaGreat.sc
open Go.RowKit mem
open record (Rc RcIn)
section
variable {P : Program} {n : Nat}
theorem range_tell {g : Operand} {ps : Array Tmp} {assign body : Code} {Q : Exit → Act → World → Prop} {a : Act} {w : World} (h1 : 1 ≤ n) {gf : Nat} {lb : Array Value}
  (hg : a.eval g = .func (.func gf) #[] lb) (eg : ∀ args w, (callFunc gf args).run P w = .ok (.enter gf args) w) (hps : ps.size = 2)
  (l : List (Ps × Rc)) (I0 : List Nat → World → Prop) (C0 : List Nat) (G : Option (List (Ps × Rc)) → World → Prop) (N : List Nat → List (Ps × Rc) → List Nat → World → Prop) (Nx : Code → List Nat → List (Ps × Rc) → List Nat → World → Prop) (X : Ps → Rc → World → Prop) (XX : List Nat)
  (hN : Abides N) (hNx : ∀ c, Abides (Nx c)) (hC : ∀ I pre C W, N I pre C W → ∀ y ∈ C, y < W.heap.size)
  (hG : ∀ b W i (o o' : Obj), G b W → w.heap.size ≤ i → W.heap[i]? = some o → o.isCells = false → G b (W.putObj i o'))
  (hseq : ∀ (lp : Nat) (J Jx : List Nat → List (Ps × Rc) → List Nat → World → Prop), Abides J → Abides Jx → (∀ I pre C W, J I pre C W → ∀ y ∈ C, y < W.heap.size) →
   (∀ I pre C W pk R L m c A k d, J I pre C W → pre ++ [(pk, R)] <+: l → RcIn W (I ++ C ++ XX) L m A k R → (∀ y ∈ I, y < W.heap.size) → X pk R W → YieldAt Fence.wide (n - 1 - 1) P lp #[.int .i64 pk.o, recVal R L m c A k d] W fun e W' =>
    ∃ C', (∀ y ∈ C', y ∈ C ∨ W.heap.size ≤ y) ∧ Kept C W W' ∧ ((e = .returned (.bool true) ∧ J I (pre ++ [(pk, R)]) C' W') ∨ (e = .returned (.bool false) ∧ Jx I (pre ++ [(pk, R)]) C' W'))) →
   ∀ W, Kept [] w W → w.heap.size + 1 < W.heap.size → (∀ I, I0 I W → J I [] ((w.heap.size + 1) :: w.heap.size :: C0) W) → CallsIn Fence.wide (n - 1) P gf (#[.func (.yield lp) #[] #[]] ++ lb) W fun e W' => (∃ v, e = .returned v) ∧ ∃ I C', (J I l C' W' ∧ G none W') ∨ (∃ pre, Jx I pre C' W' ∧ G (some pre) W'))
  (hI0 : ∀ I W, Kept [] w W → w.heap.size + 1 < W.heap.size → I0 I W → w.heap.size ∉ I ∧ w.heap.size + 1 ∉ I) (hC0 : ∀ y ∈ C0, y < w.heap.size) (h0 : ∀ I W, Kept [] w W → w.heap.size + 1 < W.heap.size → I0 I W → N ((w.heap.size + 1) :: I) [] C0 W)
  (hround : ∀ (lp : Nat) (I : List Nat) (pre : List (Ps × Rc)) (C : List Nat) (pk : Ps) (R : Rc) (L : Option Addr) (m c : Nat) (A : Option Addr) (k d : Nat) (W : World) (K : Act → World → Prop), N I pre C W → pre ++ [(pk, R)] <+: l → RcIn W (I ++ C ++ XX) L m A k R → (∀ y ∈ I, y < W.heap.size) → X pk R W → w.heap.size < lp → lp ∈ I → lp < W.heap.size →
   (∀ a' W1 C1, (∀ y ∈ C1, y ∈ C ∨ W.heap.size ≤ y) → Kept [] W W1 → (∀ W2, Kept [lp] W1 W2 → body.wpIn (Fence.wide.inRound lp) (n - 1 - 1) P (RoundPost I C1 (pre ++ [(pk, R)]) N Nx W2) a' W2) → K a' W1) →
   assign.wpIn (Fence.wide.inRound lp) (n - 1 - 1) P (Exit.then K (fun _ _ _ => False)) { tmps := (ps.zip #[Value.int .i64 pk.o, recVal R L m c A k d]).foldl (fun t (p, v) => t.setIfInBounds p v) a.tmps, defers := [] } W)
  (hdone : ∀ (D : Nat) (C : List Nat) (W : World), w.heap.size ≤ D → (∃ I, N I l C W) → G none W → D ∉ C → W.heap[D]? = some (.deferred (some [])) → Q .normal { a with defers := { target := .collected D, args := #[] } :: a.defers } W)
  (hstop : ∀ (D : Nat) (C : List Nat) (c : Code) (pre : List (Ps × Rc)) (W : World), w.heap.size ≤ D → (∃ I, Nx c I pre C W) → G (some pre) W → D ∉ C → W.heap[D]? = some (.deferred (some [])) → c.wpIn Fence.wide n P Q { a with defers := { target := .collected D, args := #[] } :: a.defers } W) :
  (Code.rangeFunc g ps assign body).wpIn Fence.wide n P Q a w := by
 refine wpIn_rangeFunc fun fn hfn => ?_
 obtain ⟨D, hD⟩ : ∃ D, w.heap.size = D := ⟨_, rfl⟩
 obtain ⟨rc, hrc'⟩ : ∃ rc : LoopState → Option Code → Loop, rc = fun st pe => { state := st, pending := pe, fn, tmps := a.tmps, params := ps, assign, body, defers := D } := ⟨_, rfl⟩
 have e1 : (Instr.enterLoop fn a.tmps ps assign body none).run P w = .ok (D + 1, [{ target := .collected D, args := #[] }]) ((w.alloc (.deferred (some []))).alloc (.loop (rc .ready none))) := by
  rw [run_enterLoop_outer, hrc', hD]
 obtain ⟨W1, hW1⟩ : ∃ W1, (w.alloc (.deferred (some []))).alloc (.loop (rc .ready none)) = W1 := ⟨_, rfl⟩
 have hk1 : Kept [] w W1 := by rw [← hW1]; exact ((Kept.refl [] w).alloc _).alloc _
 rw [hW1] at e1
 have r1 : W1.heap[D + 1]? = some (.loop (rc .ready none)) := by
  have := World.alloc_heap_new (w.alloc (.deferred (some []))) (.loop (rc .ready none))
  rwa [World.size_alloc, hW1, hD] at this
 have d1 : W1.heap[D]? = some (.deferred (some [])) := by
  rw [← hW1, ← hD]
  exact (Below.heap_alloc _ _ _ (by simp)).trans (World.alloc_heap_new w _)
 have hs1 : D + 1 < W1.heap.size := (Array.getElem?_eq_some_iff.1 r1).1
 refine ⟨D + 1, _, W1, { target := .fn (.func gf) lb, args := #[.func (.yield (D + 1)) #[] #[]] }, W1, gf, #[.func (.yield (D + 1)) #[] #[]] ++ lb, W1, e1, ?_, fun _ _ => trivial, ?_, fun _ => h1, ?_⟩
 ·simp only [resolve, hg]
  simp [go_sem]
 ·simp [invoke, go_sem, eg]
 have hx0 : D ∉ C0 ∧ D + 1 ∉ C0 := ⟨fun hm => by have := hC0 _ hm; omega, fun hm => by have := hC0 _ hm; omega⟩
 refine (hseq (D + 1)
  (fun I pre C W => ∃ Cb, C = (D + 1) :: D :: Cb ∧ N ((D + 1) :: I) pre Cb W ∧ D + 1 ∉ I ∧ D ∉ I ∧ W.heap[D + 1]? = some (.loop (rc .ready none)) ∧ W.heap[D]? = some (.deferred (some [])) ∧ D ∉ Cb ∧ D + 1 ∉ Cb)
  (fun I pre C W => ∃ Cb c, C = (D + 1) :: D :: Cb ∧ Nx c ((D + 1) :: I) pre Cb W ∧ D + 1 ∉ I ∧ D ∉ I ∧ W.heap[D + 1]? = some (.loop (rc .done (some c))) ∧ W.heap[D]? = some (.deferred (some [])) ∧ D ∉ Cb ∧ D + 1 ∉ Cb)
  ?_ ?_ ?_ ?_ W1 hk1 (by rw [hD]; exact hs1) (fun I hI => ⟨C0, by rw [hD], by have := h0 I W1 hk1 (by rw [hD]; exact hs1) hI; rw [hD] at this; exact this, (by have := (hI0 I W1 hk1 (by rw [hD]; exact hs1) hI).2; rw [hD] at this; exact this), (by have := (hI0 I W1 hk1 (by rw [hD]; exact hs1) hI).1; rw [hD] at this; exact this), r1, d1, hx0⟩)).mono ?_
 ·rintro I pre C W W' S ⟨Cb, rfl, hn, i1, i0, hr, hd, hx⟩ hk hS
  exact ⟨Cb, rfl, hN _ _ _ _ _ _ hn hk (fun y hy => by simp [hS y hy]), i1, i0, (hk.block _ (Array.getElem?_eq_some_iff.1 hr).1 (fun hm => i1 (hS _ hm))).trans hr, (hk.block _ (Array.getElem?_eq_some_iff.1 hd).1 (fun hm => i0 (hS _ hm))).trans hd, hx⟩
 ·rintro I pre C W W' S ⟨Cb, c, rfl, hn, i1, i0, hr, hd, hx⟩ hk hS
  exact ⟨Cb, c, rfl, hNx c _ _ _ _ _ _ hn hk (fun y hy => by simp [hS y hy]), i1, i0, (hk.block _ (Array.getElem?_eq_some_iff.1 hr).1 (fun hm => i1 (hS _ hm))).trans hr, (hk.block _ (Array.getElem?_eq_some_iff.1 hd).1 (fun hm => i0 (hS _ hm))).trans hd, hx⟩
 ·rintro I pre C W ⟨Cb, rfl, hn, i1, i0, hr, hd, hx⟩ y hy
  have t1 := (Array.getElem?_eq_some_iff.1 hr).1
  have t2 := (Array.getElem?_eq_some_iff.1 hd).1
  rcases List.mem_cons.1 hy with rfl | hy
  ·exact t1
  rcases List.mem_cons.1 hy with rfl | hy
  ·exact t2
  ·exact hC _ _ _ _ hn y hy
 ·rintro I pre C W pk R L m c A k d ⟨Cb, rfl, hn, i1, i0, hr, hd, hx⟩ hpre hrc hIl hX
  have hlt : D + 1 < W.heap.size := (Array.getElem?_eq_some_iff.1 hr).1
  have hy := run_yield (P := P) (args := #[.int .i64 pk.o, recVal R L m c A k d]) hr (by rw [hrc']; simp [hps])
  rw [hrc'] at hy
  refine ⟨fn, _, assign, body, hy, roundIn_of_wpIn hfn (hround _ ((D + 1) :: I) pre Cb pk R L m c A k d W _ hn hpre (hrc.less (fun i hi => by simp at hi ⊢; rcases hi with h | h | h | h <;> simp [h])) (List.forall_mem_cons.2 ⟨hlt, hIl⟩) hX (by omega) (by simp) hlt ?_)⟩
  intro a' Wa C1 hC1 hka hb
  have ra : Wa.heap[D + 1]? = some (.loop (rc .ready none)) := (hka.block _ hlt (by simp)).trans hr
  have da : Wa.heap[D]? = some (.deferred (some [])) := (hka.block _ (by omega) (by simp)).trans hd
  have hlta : D + 1 < Wa.heap.size := (Array.getElem?_eq_some_iff.1 ra).1
  have hx1 : D + 1 ∉ C1 ∧ D ∉ C1 := ⟨fun hm => (hC1 _ hm).elim hx.2 (fun h => by omega), fun hm => (hC1 _ hm).elim hx.1 (fun h => by omega)⟩
  refine ⟨_, run_beginRound ra (by rw [hrc']), ?_⟩
  obtain ⟨Wb, hWb⟩ : ∃ Wb, Wa.putObj (D + 1) (.loop { rc .ready none with state := .busy }) = Wb := ⟨_, rfl⟩
  have hkb : Kept [D + 1] Wa Wb := by rw [← hWb]; exact kept_put _ _ _
  have rb : Wb.heap[D + 1]? = some (.loop { rc .ready none with state := .busy }) := by rw [← hWb]; exact World.putObj_heap_same hlta
  have db : Wb.heap[D]? = some (.deferred (some [])) := (hkb.block _ (by omega) (by simp)).trans da
  rw [hWb]
  have hlast : ∀ (jump : Option Code) (W3 : World), Kept C1 Wb W3 → (Instr.endRound (D + 1) jump).run P W3 = .ok (.bool jump.isNone) (W3.putObj (D + 1) (.loop (rc (if jump.isNone then .ready else .done) jump))) ∧
    (W3.putObj (D + 1) (.loop (rc (if jump.isNone then .ready else .done) jump))).heap[D + 1]? = some (.loop (rc (if jump.isNone then .ready else .done) jump)) ∧
    (W3.putObj (D + 1) (.loop (rc (if jump.isNone then .ready else .done) jump))).heap[D]? = some (.deferred (some [])) ∧
    Kept ((D + 1) :: D :: Cb) W (W3.putObj (D + 1) (.loop (rc (if jump.isNone then .ready else .done) jump))) := fun jump W3 hk3 => by
   have r3 := (hk3.block _ (Array.getElem?_eq_some_iff.1 rb).1 hx1.1).trans rb
   have d3 := (hk3.block _ (Array.getElem?_eq_some_iff.1 db).1 hx1.2).trans db
   have he := run_endRound (P := P) jump r3
   rw [hrc'] at he
   refine ⟨by rw [hrc']; exact he, World.putObj_heap_same (Array.getElem?_eq_some_iff.1 r3).1, (World.putObj_heap_other (by omega)).trans d3, ?_⟩
   refine ((((hka.mono (S' := (D + 1) :: D :: Cb) (by simp)).trans hkb (by simp)).trans hk3 (fun i hi => ?_)).trans (kept_put _ _ _) (by simp))
   rcases hC1 i hi with h | h
   ·exact .inl (by simp [h])
   ·exact .inr h
  have hCC : ∀ (C' : List Nat), (∀ y ∈ C', y ∈ C1 ∨ Wb.heap.size ≤ y) → (∀ y ∈ (D + 1) :: D :: C', y ∈ (D + 1) :: D :: Cb ∨ W.heap.size ≤ y) ∧ D ∉ C' ∧ D + 1 ∉ C' := fun C' hC' => by
   have hs : W.heap.size ≤ Wb.heap.size := Nat.le_trans hka.size hkb.size
   refine ⟨fun y hy => ?_, fun hm => (hC' _ hm).elim hx1.2 (fun h => by omega), fun hm => (hC' _ hm).elim hx1.1 (fun h => by omega)⟩
   rcases List.mem_cons.1 hy with rfl | hy
   ·exact .inl (by simp)
   rcases List.mem_cons.1 hy with rfl | hy
   ·exact .inl (by simp)
   rcases hC' y hy with h | h
   ·rcases hC1 y h with h | h
    ·exact .inl (by simp [h])
    ·exact .inr h
   ·exact .inr (by omega)
  refine wpIn_mono (hb Wb hkb) ?_
  rintro e a3 W3 hp
  cases e with
  | normal =>
   obtain ⟨C', hC', hk3, hn3⟩ := hp
   obtain ⟨he, r4, d4, hkk⟩ := hlast none W3 hk3
   obtain ⟨hc1, hc2⟩ := hCC C' hC'
   exact ⟨_, _, he, (D + 1) :: D :: C', hc1, hkk, .inl ⟨rfl, C', rfl, hN _ _ _ _ _ _ hn3 (kept_put _ _ _) (by simp), i1, i0, r4, d4, hc2⟩⟩
  | ret =>
   obtain ⟨C', hC', hk3, hn3⟩ := hp
   obtain ⟨he, r4, d4, hkk⟩ := hlast (some .ret) W3 hk3
   obtain ⟨hc1, hc2⟩ := hCC C' hC'
   exact ⟨_, _, he, (D + 1) :: D :: C', hc1, hkk, .inr ⟨rfl, C', _, rfl, hNx _ _ _ _ _ _ _ hn3 (kept_put _ _ _) (by simp), i1, i0, r4, d4, hc2⟩⟩
  | exit i =>
   obtain ⟨C', hC', hk3, hn3⟩ := hp
   obtain ⟨he, r4, d4, hkk⟩ := hlast (some (.exit i)) W3 hk3
   obtain ⟨hc1, hc2⟩ := hCC C' hC'
   exact ⟨_, _, he, (D + 1) :: D :: C', hc1, hkk, .inr ⟨rfl, C', _, rfl, hNx _ _ _ _ _ _ _ hn3 (kept_put _ _ _) (by simp), i1, i0, r4, d4, hc2⟩⟩
  | goto i =>
   obtain ⟨C', hC', hk3, hn3⟩ := hp
   obtain ⟨he, r4, d4, hkk⟩ := hlast (some (.goto i)) W3 hk3
   obtain ⟨hc1, hc2⟩ := hCC C' hC'
   exact ⟨_, _, he, (D + 1) :: D :: C', hc1, hkk, .inr ⟨rfl, C', _, rfl, hNx _ _ _ _ _ _ _ hn3 (kept_put _ _ _) (by simp), i1, i0, r4, d4, hc2⟩⟩
  | panic ch => exact hp.elim
  | outgrown => exact hp.elim
 ·rintro e W2 ⟨⟨v, rfl⟩, I, C', (⟨⟨Cb, rfl, hn, i1, i0, hr, hd, hx⟩, hg⟩ | ⟨pre, ⟨Cb, c, rfl, hn, i1, i0, hr, hd, hx⟩, hg⟩)⟩
  ·have he := run_endLoop (P := P) hr (by rw [hrc']; simp)
   exact ⟨none, _, by rw [he, hrc'], hdone D Cb _ (by omega) ⟨_, hN _ _ _ _ _ _ hn (kept_put _ _ _) (by simp)⟩ (hG _ _ _ _ _ hg (by omega) hr rfl) hx.1 ((World.putObj_heap_other (by omega)).trans hd)⟩
  ·have he := run_endLoop (P := P) hr (by rw [hrc']; simp)
   exact ⟨some c, _, by rw [he, hrc'], hstop D Cb c pre _ (by omega) ⟨_, hNx _ _ _ _ _ _ _ hn (kept_put _ _ _) (by simp)⟩ (hG _ _ _ _ _ hg (by omega) hr rfl) hx.1 ((World.putObj_heap_other (by omega)).trans hd)⟩
end
end Go.Proofs.YtgifeilmidpkeaaGreat.sc
