import Derived.Test.YtgifeilmidpkeaaGreatVChainNone
import Derived.Test.YtgifeilmidpkeaaGreatVScanLawCore
namespace Go.Proofs.YtgifeilmidpkeaaGreat.sc
set_option linter.unusedSimpArgs false
set_option linter.unusedVariables false
open Go.RowKit mem base disk geom owns
open record (Rc RcIn RcAt put5 put5_kept cell5)
open item (It Items)
open hd (Hd)
def nextR (q : Ps) (v : Int) : Rc := ⟨q.m, q.l, q.v, [⟨7, 0, 0, v⟩], []⟩
theorem nextR_ok (q : Ps) (v : Int) (hk : 1 ≤ q.m ∧ q.m ≤ 2147483647) (hl : 1 ≤ q.l ∧ q.l ≤ 2147483647) (hv : 0 ≤ q.v ∧ q.v ≤ 4294967295) (h : 0 ≤ v ∧ v ≤ 31) : (nextR q v).ok := by
 have hm : item.It.may ⟨7, 0, 0, v⟩ = true := (item.may_iff4 _ _ _ _).2 (by omega)
 refine ⟨hk, hl, hv, ⟨by simp [nextR], by simp [nextR]⟩, ?_, ?_, by simp [nextR, record.all64]⟩
 ·intro i hi
  simp only [nextR, List.mem_cons, List.not_mem_nil, or_false] at hi
  rw [hi]
  exact hm
 ·simp [nextR, record.count, item.It.loaded]
theorem nextR_at {w : World} (q : Ps) (v : Int) {b : Nat} (h : Blk w b 98 #[.int .i64 7, .int .i64 0, .int .i64 0, .int .i64 v]) : RcAt w (some ⟨b, 0, none⟩) 1 none 0 (nextR q v) :=
 ⟨rfl, rfl, Vals.blk 0 h (by simp) (fun i x hx => by simpa [nextR, item.valsOf, item.It.vals] using hx), crc.Parts.nil _ _⟩
theorem nextR_next (q : Ps) (v : Int) : nextItem (nextR q v) = some ⟨7, 0, 0, v⟩ := rfl
theorem nextR_len (q : Ps) (v : Int) : lenOf (nextR q v) = 1 := rfl
def turnTo (p : Ps) (nx : Int) : Ps := ⟨nx, 0, p.l + 1, ((nextR p nx).sum : Int), p.m⟩
def turnD (D : Dk) (a a2 : Nat) (p : Ps) (nx : Int) (hb : Bool) : Dk × Ps :=
 if hb then (putD (putD D ((a + p.o.toNat : Nat) : Int) (nextR p nx).bytes) (a2 : Int) (headOf (turnTo p nx)).bytes, ⟨nx, 1, p.l + 1, ((nextR p nx).sum : Int), p.m⟩)
 else (putD D ((a + p.o.toNat : Nat) : Int) (nextR p nx).bytes, turnTo p nx)
theorem head_may (p : Ps) (hs : 0 ≤ p.s ∧ p.s ≤ 31) (hk : 1 ≤ p.m ∧ p.m ≤ 2147483647) (hl : 1 ≤ p.l ∧ p.l ≤ 2147483647) (hv : 0 ≤ p.v ∧ p.v ≤ 4294967295) : (headOf p).may = true := (Hd.may_iff _).2 (by unfold headOf; dsimp only; omega)

set_option maxRecDepth 100000 in
set_option maxHeartbeats 4000000 in
theorem kturn_any (F G : List Nat) (d rd : Nat) (D : Dk) (p : Ps) (b s l r q nx : Int) (hb : Bool) (a a2 : Nat) (w : World) (h : Dd w F d G rd D) (hR : Reads D) (hf : geom.Rf b s l r q) (hi : 0 ≤ p.s ∧ p.s ≤ s - 1) (hx : 0 ≤ nx ∧ nx ≤ s - 1) (hs : s ≤ 32) (ha : 2 + 2 * r + 4 * q + p.s * l = (a : Int)) (ha2 : 2 + 2 * r + 4 * q + nx * l = (a2 : Int))
  (hn : (a : Int) + l ≤ D.n) (hn2 : (a2 : Int) + 1 ≤ D.n) (ho : 1 ≤ p.o ∧ p.o + 1 ≤ l) (hm : 1 ≤ p.m ∧ p.m ≤ 2000000) (hl : 1 ≤ p.l ∧ p.l ≤ 2000000) (hv : 0 ≤ p.v ∧ p.v ≤ 4294967295) (hac : D.acts ≤ 800000) :
  Calls Tryz.prog 96 #[.pointer (some ⟨d, 0, none⟩), .pointer (some ⟨rd, 0, none⟩), .agg #[.int .i64 b, .int .i64 s, .int .i64 l], .agg #[.int .i64 p.s, .int .i64 p.o, .int .i64 p.l, .int .i64 p.v, .int .i64 p.m], .int .i64 nx, .bool hb] w fun e w' =>
   e = .returned (.tuple #[(turnD D a a2 p nx hb).2.val, .bool true]) ∧ DdTo w w' F d G rd (turnD D a a2 p nx hb).1 := by
 obtain ⟨y, hy⟩ : ∃ y, w.heap.size = y := ⟨_, rfl⟩
 obtain ⟨w0, hw0⟩ : ∃ w0, ((w.alloc (.cells #[.int .i64 b, .int .i64 s, .int .i64 l] 29)).alloc (.cells #[.int .i64 p.s, .int .i64 p.o, .int .i64 p.l, .int .i64 p.v, .int .i64 p.m] 24)).alloc (.cells #[.int .i64 0, .int .i64 0, .int .i64 0, .int .i64 0, .int .i64 0] 24) = w0 := ⟨_, rfl⟩
 have hk0 : Kept [] w w0 := by rw [← hw0]; exact (((Kept.refl [] w).alloc _).alloc _).alloc _
 have hb8 : Blk w0 y 29 #[.int .i64 b, .int .i64 s, .int .i64 l] := by rw [← hw0, ← hy]; exact ((Blk.new w _ _).alloc _).alloc _
 have hb9 : Blk w0 (y + 1) 24 #[.int .i64 p.s, .int .i64 p.o, .int .i64 p.l, .int .i64 p.v, .int .i64 p.m] := by
  rw [← hw0, ← hy, ← World.size_alloc w (.cells #[.int .i64 b, .int .i64 s, .int .i64 l] 29)]; exact (Blk.new _ _ _).alloc _
 have hb12 : Blk w0 (y + 1 + 1) 24 #[.int .i64 0, .int .i64 0, .int .i64 0, .int .i64 0, .int .i64 0] := by
  rw [← hw0, ← hy, ← World.size_alloc w (.cells #[.int .i64 b, .int .i64 s, .int .i64 l] 29), ← World.size_alloc _ (.cells #[.int .i64 p.s, .int .i64 p.o, .int .i64 p.l, .int .i64 p.v, .int .i64 p.m] 24)]; exact Blk.new _ _ _
 have hsz0 : w0.heap.size = y + 1 + 1 + 1 := by rw [← hw0, World.size_alloc, World.size_alloc, World.size_alloc, hy]
 obtain ⟨bi, hbi⟩ : ∃ bi, w0.heap.size = bi := ⟨_, rfl⟩
 obtain ⟨wi, hwi⟩ : ∃ wi, w0.alloc (.cells #[.int .i64 7, .int .i64 0, .int .i64 0, .int .i64 nx] 98) = wi := ⟨_, rfl⟩
 have ki : Kept [] w0 wi := by rw [← hwi]; exact (Kept.refl [] w0).alloc _
 have mi : Blk wi bi 98 #[.int .i64 7, .int .i64 0, .int .i64 0, .int .i64 nx] := by rw [← hwi, ← hbi]; exact Blk.new w0 _ _
 have HRC := hide (nextR_at p nx mi)
 have hok : (nextR p nx).ok := nextR_ok p nx (by omega) (by omega) hv (by omega)
 have HOK := hide hok
 have HD0 := hide (h.kept0 (hk0.trans ki (by simp)))
 have HK0 := hide (hk0.trans ki (by simp))
 have HB8 := hide (ki.blk hb8 (by simp))
 have HB9 := hide (ki.blk hb9 (by simp))
 have HB12 := hide (ki.blk hb12 (by simp))
 have HLT := hide h.lt
 have HR := hide hR
 have HF := hide hf
 have HI := hide hi
 have HX := hide hx
 have HA := hide ha
 have HA2 := hide ha2
 have HN := hide hn
 have HN2 := hide hn2
 have HO := hide ho
 have HMM := hide hm
 have HLL := hide hl
 have HVV := hide hv
 have HAC := hide hac
 have HS := hide hs
 have hyw := HK0.out.size
 have HSZ := hide (show w.heap.size = y ∧ y + 1 + 1 + 1 = bi ∧ bi < wi.heap.size from ⟨hy, by rw [← hbi, hsz0], mi.lt⟩)
 obtain ⟨p0, p1, p2, p3, p4⟩ := cell5 hb9
 clear hyw hsz0 hok ki mi h hR hf hi hx ha ha2 hn hn2 ho hm hl hv hac hs hk0 hb8 hb9 hb12
 go_enter Tryz.func96, Tryz.ntmps96
 go_wp2_with fail
 refine (record.rbytes_far (nextR p nx) (some ⟨bi, 0, none⟩) none 1 1 0 0 _ HRC.out HOK.out).mono ?_
 rintro e w1 ⟨P, cp, rfl, hcp, hby, hk1⟩
 have HCP := hide hcp
 have HBY := hide (hby (F ++ G) (fun i hi => HD0.out.lt i hi))
 have HD1 := hide (HD0.out.kept0 hk1)
 have HK1 := hide (HK0.out.trans hk1 (by simp))
 have HB81 := hide (hk1.blk HB8.out (by simp))
 have HB91 := hide (hk1.blk HB9.out (by simp))
 have HB121 := hide (hk1.blk HB12.out (by simp))
 have HSZ1 := hide (show y + 1 + 1 < w1.heap.size by have h1 := HSZ.out; have h2 := hk1.size; omega)
 clear hcp hby hk1 p0 p1 p2 p3 p4 HD0 HK0 HB8 HB9 HB12 HRC
 obtain ⟨t, ht⟩ : ∃ t : Nat, a + p.o.toNat = t := ⟨_, rfl⟩
 have HT := hide (show (a : Int) + p.o = (t : Int) ∧ t + 1 ≤ D.n ∧ t ≤ 10000 by have h1 := HO.out; have h2 := HN.out; have h3 := HD1.out.a.1.n2; omega)
 have hwt : IntKind.i64.wrap (t : Int) = (t : Int) := IntWalk.i64_in _ (by have := HT.out; omega)
 have hadd : (a : Int) + p.o = (t : Int) := HT.out.1
 obtain ⟨sm, hsm⟩ : ∃ sm : Nat, (nextR p nx).sum = sm := ⟨_, rfl⟩
 have HTD : Hid (turnD D a a2 p nx hb = if hb then (putD (putD D (t : Int) (nextR p nx).bytes) (a2 : Int) (headOf (turnTo p nx)).bytes, ⟨nx, 1, p.l + 1, (sm : Int), p.m⟩) else (putD D (t : Int) (nextR p nx).bytes, ⟨nx, 0, p.l + 1, (sm : Int), p.m⟩)) := hide (by unfold turnD turnTo; rw [ht, hsm])
 have HTT : Hid (turnTo p nx = ⟨nx, 0, p.l + 1, (sm : Int), p.m⟩) := hide (by unfold turnTo; rw [hsm])
 have HPR := hide (put_reads HR.out t (nextR p nx).bytes 1 HT.out.2.1 (Rc.bytes_len HOK.out))
 have hsl : (nextR p nx).sum ≤ 4294967295 := by first | exact crc.more_le _ _ | exact crcMath.more_le _ _
 have HSM := sealed (show (sm : Int) ≤ 4294967295 by rw [← hsm]; omega)
 rw [hsm]
 clear hsm ht hsl
 have HST := hide (show (Kept (F ++ G) w1 w1.drew) ∧ w1.drew.cell? ⟨y, 0, none⟩ = some (.int .i64 b) ∧ w1.drew.cell? ⟨y, 1, none⟩ = some (.int .i64 s) ∧ w1.drew.cell? ⟨y, 2, none⟩ = some (.int .i64 l) ∧ w1.drew.cell? ⟨y + 1, 0, none⟩ = some (.int .i64 p.s) ∧ w1.drew.cell? ⟨y + 1, 1, none⟩ = some (.int .i64 p.o) from ⟨(Kept.refl _ w1).drew, HB81.out.cell 0, HB81.out.cell 1, HB81.out.cell 2, HB91.out.cell 0, HB91.out.cell 1⟩)
 have HFN := hide (show y ∉ F ++ G ∧ y + 1 ∉ F ++ G ∧ y + 1 + 1 ∉ F ++ G from ⟨fun hm => by have h1 := HLT.out _ hm; have h2 := HSZ.out; omega, fun hm => by have h1 := HLT.out _ hm; have h2 := HSZ.out; omega, fun hm => by have h1 := HLT.out _ hm; have h2 := HSZ.out; omega⟩)
 have HALL := hide (show ∀ W, Kept (F ++ G) w1 W → (Kept (F ++ G) w1 W) ∧ W.cell? ⟨y, 0, none⟩ = some (.int .i64 b) ∧ W.cell? ⟨y, 1, none⟩ = some (.int .i64 s) ∧ W.cell? ⟨y, 2, none⟩ = some (.int .i64 l) ∧ W.cell? ⟨y + 1, 0, none⟩ = some (.int .i64 p.s) ∧ W.cell? ⟨y + 1, 1, none⟩ = some (.int .i64 p.o) from fun W k => ⟨k, k.cell (HB81.out.cell 0) HFN.out.1, k.cell (HB81.out.cell 1) HFN.out.1, k.cell (HB81.out.cell 2) HFN.out.1, k.cell (HB91.out.cell 0) HFN.out.2.1, k.cell (HB91.out.cell 1) HFN.out.2.1⟩)
 go_wp2
 refine wp_region_noPanic ?_
 refine wp_region_held_drew (S := fun W => Kept (F ++ G) w1 W ∧ W.cell? ⟨y, 0, none⟩ = some (.int .i64 b) ∧ W.cell? ⟨y, 1, none⟩ = some (.int .i64 s) ∧ W.cell? ⟨y, 2, none⟩ = some (.int .i64 l) ∧ W.cell? ⟨y + 1, 0, none⟩ = some (.int .i64 p.s) ∧ W.cell? ⟨y + 1, 1, none⟩ = some (.int .i64 p.o)) (by kernel_rfl) (by exact HST.out) (fun hHeld => ?_)
 refine tK 0 34 rfl ?_
 try simp only [Act.put, pA, pB, pC]
 refine tK 1 35 rfl ?_
 try simp only [Act.put, pA, pB, pC]
 refine tK 2 36 rfl ?_
 try simp only [Act.put, pA, pB, pC]
 refine tK 3 37 rfl ?_
 try simp only [Act.put, pA, pB, pC]
 refine tK 4 38 rfl ?_
 try simp only [Act.put, pA, pB, pC]
 refine tK 5 39 rfl ?_
 try simp only [Act.put, pA, pB, pC]
 refine tK 6 40 rfl ?_
 try simp only [Act.put, pA, pB, pC]
 refine tK 7 41 rfl ?_
 try simp only [Act.put, pA, pB, pC]
 refine tK 9 43 rfl ?_
 try simp only [Act.put, pA, pB, pC]
 refine tK 10 44 rfl ?_
 try simp only [Act.put, pA, pB, pC]
 refine tK 12 46 rfl ?_
 try simp only [Act.put, pA, pB, pC]
 refine hO 8 (some 42) rfl fun K hK => ?_
 go_simp
 refine (geom.rsegAt_yes b s l r q p.s _ HF.out HI.out).mono ?_
 rintro e w2 ⟨rfl, hk2⟩
 rw [HA.out]
 have HK2 := hide (show Kept [] w1 w2 from ((Kept.refl [] w1).drew).trans hk2 (by simp))
 refine hK.out _ _ (by exact HALL.out _ (HK2.out.mono (by simp))) (fun hHeld => ?_)
 clear hK K
 try simp only [Act.put, pA, pB, pC]
 refine tK 11 45 rfl ?_
 try simp only [Act.put, pA, pB, pC]
 refine hO 13 (some 47) rfl fun K hK => ?_
 go_simp
 refine (put_any F G d rd D t P _ cp 1 (nextR p nx).bytes _ (HD1.out.kept0 HK2.out) HR.out.live HT.out.2.1 (by omega) (by have := HAC.out; omega) (Rc.bytes_len HOK.out) (by rfl) (by have := HCP.out; omega) (HBY.out.kept HK2.out (by simp))).mono ?_
 rintro e w3 ⟨rfl, F3, G3, h31, h32, h33⟩
 have HD3 := hide h31
 have HS3 := hide h32
 have HK3 := hide ((HK2.out.mono (S' := F ++ G) (by simp)).trans h33 (fun i hi => .inl hi))
 refine hK.out _ _ (by exact HALL.out _ HK3.out) (fun hHeld => ?_)
 clear hK K
 try simp only [Act.put, pA, pB, pC]
 refine tK 14 48 rfl ?_
 try simp only [Act.put, pA, pB, pC]
 refine tK 15 49 rfl ?_
 try simp only [Act.put, pA, pB, pC]
 refine wpAnyH_done (by kernel_rfl) ?_ _
 refine NoPanic.normal ?_
 have HB83 := hide (HK3.out.blk HB81.out HFN.out.1)
 have HB93 := hide (HK3.out.blk HB91.out HFN.out.2.1)
 have HB123 := hide (HK3.out.blk HB121.out HFN.out.2.2)
 have hwl : IntKind.i64.wrap (p.l + 1) = p.l + 1 := IntWalk.i64_in _ (by have := HLL.out; omega)
 obtain ⟨p0, p1, p2, p3, p4⟩ := cell5 HB93.out
 obtain ⟨yq, hyq⟩ : ∃ yq, w3.heap.size = yq := ⟨_, rfl⟩
 obtain ⟨w4, hw4⟩ : ∃ w4, w3.alloc (.cells #[.int .i64 nx, .int .i64 0, .int .i64 (p.l + 1), .int .i64 (sm : Int), .int .i64 p.m] 24) = w4 := ⟨_, rfl⟩
 have hk4 : Kept [] w3 w4 := by rw [← hw4]; exact (Kept.refl [] w3).alloc _
 have hb17 : Blk w4 yq 24 #[.int .i64 nx, .int .i64 0, .int .i64 (p.l + 1), .int .i64 (sm : Int), .int .i64 p.m] := by rw [← hw4, ← hyq]; exact Blk.new w3 _ _
 have HK4 := hide (HK3.out.trans hk4 (by simp))
 have HB84 := hide (hk4.blk HB83.out (by simp))
 have HB124 := hide (hk4.blk HB123.out (by simp))
 have HB17 := hide hb17
 have HD4 := hide (HD3.out.kept0 hk4)
 have HYQ := hide (show y + 1 + 1 < yq ∧ w1.heap.size ≤ yq by have h1 := HSZ1.out; have h2 := HK3.out.size; omega)
 have hyq2 := HYQ.out
 obtain ⟨u0, u1, u2, u3, u4⟩ := cell5 HB124.out
 have hf12 := HB124.out.frozen
 obtain ⟨r0, r1, r2, r3, r4⟩ := cell5 hb17
 have hf17 := hb17.frozen
 clear HB81 HB91 HB121 HALL HST hHeld hk4 hb17 hk2 HCP HBY
 cases hb with
 | false =>
  have HBX := hide ((Blk.set_ (Blk.set_ (Blk.set_ (Blk.set_ (Blk.set_ HB124.out 0 (.int .i64 nx)) 1 (.int .i64 0)) 2 (.int .i64 (p.l + 1))) 3 (.int .i64 (sm : Int))) 4 (.int .i64 p.m)))
  have HKX := hide (((((((Kept.refl [y + 1 + 1] w4).set_ (b := y + 1 + 1) (.inl (by simp)) 0 (.int .i64 nx)).set_ (b := y + 1 + 1) (.inl (by simp)) 1 (.int .i64 0)).set_ (b := y + 1 + 1) (.inl (by simp)) 2 (.int .i64 (p.l + 1))).set_ (b := y + 1 + 1) (.inl (by simp)) 3 (.int .i64 (sm : Int))).set_ (b := y + 1 + 1) (.inl (by simp)) 4 (.int .i64 p.m)))
  go_wp2
  generalize (((((w4.setCell ⟨y + 1 + 1, 0, none⟩ (.int .i64 nx)).setCell ⟨y + 1 + 1, 1, none⟩ (.int .i64 0)).setCell ⟨y + 1 + 1, 2, none⟩ (.int .i64 (p.l + 1))).setCell ⟨y + 1 + 1, 3, none⟩ (.int .i64 (sm : Int))).setCell ⟨y + 1 + 1, 4, none⟩ (.int .i64 p.m)) = wx at HBX HKX ⊢
  obtain ⟨v0, v1, v2, v3, v4⟩ := cell5 HBX.out
  refine bodyPost_ret (v := .tuple #[.agg #[.int .i64 nx, .int .i64 0, .int .i64 (p.l + 1), .int .i64 (sm : Int), .int .i64 p.m], .bool true]) ?_ rfl ⟨by rw [HTD.out]; rfl, ?_⟩
  ·simp [results, Tryz.results96, go_sem, v0, v1, v2, v3, v4]
  ·rw [HTD.out]
   refine ⟨F3, G3, HD4.out.kept HKX.out (fun i hi hm => ?_) (fun i hi hm => ?_), fun i hi => (HS3.out i hi).imp id (fun h => by have h1 := HK1.out.size; have h2 := HK2.out.size; omega), ?_⟩
   ·simp at hm; subst hm; exact (HS3.out _ (List.mem_append_left _ hi)).elim HFN.out.2.2 (fun h => by have h1 := HSZ1.out; have h2 := HK2.out.size; omega)
   ·simp at hm; subst hm; exact (HS3.out _ (List.mem_append_right _ hi)).elim HFN.out.2.2 (fun h => by have h1 := HSZ1.out; have h2 := HK2.out.size; omega)
   ·exact ((HK1.out.mono (S' := F ++ G) (by simp)).trans HK4.out (fun i hi => .inl hi)).trans HKX.out (fun i hi => .inr (by simp at hi; subst hi; have := HSZ.out; omega))
 | true =>
  have HHM : Hid ((headOf ⟨nx, 0, p.l + 1, (sm : Int), p.m⟩).may = true) := hide (head_may _ (by have h1 := HX.out; have h2 := HS.out; dsimp only; omega) (by have := HMM.out; dsimp only; omega) (by have := HLL.out; dsimp only; omega) (by have := HSM.out; dsimp only; omega))
  have g0 := HB84.out.cell 0
  have g1 := HB84.out.cell 1
  have g2 := HB84.out.cell 2
  go_wp2_with fail
  refine (khead_any F3 G3 d rd (putD D (t : Int) (nextR p nx).bytes) ⟨nx, 0, p.l + 1, (sm : Int), p.m⟩ b s l r q a2 _ HD4.out HPR.out.1 HF.out HX.out HHM.out HA2.out (by have h1 := HPR.out.2.1; have h2 := HN2.out; omega) (by have h1 := HPR.out.2.2.1; have h2 := HAC.out; omega)).mono ?_
  rintro e w5 ⟨rfl, F5, G5, h51, h52, h53⟩
  have HYN := hide (show yq ∉ F3 ++ G3 ∧ y + 1 + 1 ∉ F3 ++ G3 from ⟨fun hm => by have := HD3.out.lt _ hm; omega, fun hm => (HS3.out _ hm).elim HFN.out.2.2 (fun h => by have h1 := HSZ1.out; have h2 := HK2.out.size; omega)⟩)
  have HB175 := hide (h53.blk HB17.out HYN.out.1)
  have HB125 := hide (h53.blk HB124.out HYN.out.2)
  have HB126 := hide (((Kept.refl [yq] w5).set_ (b := yq) (.inl (by simp)) 1 (.int .i64 1)).blk HB125.out (by simp; omega))
  have HD5 := hide h51
  have HS5 := hide (show ∀ i ∈ F5 ++ G5, i ∈ F ++ G ∨ w1.heap.size ≤ i from fun i hi => (h52 i hi).elim (fun h => (HS3.out i h).imp id (fun h => by have h2 := HK2.out.size; omega)) (fun h => .inr (by have h2 := HK4.out.size; omega)))
  have HK5 := hide (show Kept (F ++ G) w1 w5 from HK4.out.trans h53 (fun i hi => (HS3.out i hi).imp id (fun h => by have h2 := HK2.out.size; omega)))
  have HB17s := hide (Blk.set_ HB175.out 1 (.int .i64 1))
  have hs4 := HB17.out.lt
  have HYF := hide (show yq ∉ F5 ++ G5 ∧ y + 1 + 1 ∉ F5 ++ G5 from ⟨fun hm => (h52 _ hm).elim HYN.out.1 (fun h => by omega), fun hm => (h52 _ hm).elim HYN.out.2 (fun h => by omega)⟩)
  clear g0 g1 g2 h51 h52 h53 u0 u1 u2 u3 u4 r0 r1 r2 r3 r4 hf12 hf17 p0 p1 p2 p3 p4
  obtain ⟨r0, r1, r2, r3, r4⟩ := cell5 HB175.out
  obtain ⟨u0, u1, u2, u3, u4⟩ := cell5 HB125.out
  have hf17 := HB175.out.frozen
  have hf12 := HB125.out.frozen
  have hne : ¬ yq = y + 1 + 1 := by omega
  have hne2 : ¬ y + 1 + 1 = yq := by omega
  have HBX := hide ((Blk.set_ (Blk.set_ (Blk.set_ (Blk.set_ (Blk.set_ HB126.out 0 (.int .i64 nx)) 1 (.int .i64 1)) 2 (.int .i64 (p.l + 1))) 3 (.int .i64 (sm : Int))) 4 (.int .i64 p.m)))
  have HKX := hide ((((((((Kept.refl [yq, y + 1 + 1] w5).set_ (b := yq) (.inl (by simp)) 1 (.int .i64 1)).set_ (b := y + 1 + 1) (.inl (by simp)) 0 (.int .i64 nx)).set_ (b := y + 1 + 1) (.inl (by simp)) 1 (.int .i64 1)).set_ (b := y + 1 + 1) (.inl (by simp)) 2 (.int .i64 (p.l + 1))).set_ (b := y + 1 + 1) (.inl (by simp)) 3 (.int .i64 (sm : Int))).set_ (b := y + 1 + 1) (.inl (by simp)) 4 (.int .i64 p.m)))
  go_wp2
  generalize ((((((w5.setCell ⟨yq, 1, none⟩ (.int .i64 1)).setCell ⟨y + 1 + 1, 0, none⟩ (.int .i64 nx)).setCell ⟨y + 1 + 1, 1, none⟩ (.int .i64 1)).setCell ⟨y + 1 + 1, 2, none⟩ (.int .i64 (p.l + 1))).setCell ⟨y + 1 + 1, 3, none⟩ (.int .i64 (sm : Int))).setCell ⟨y + 1 + 1, 4, none⟩ (.int .i64 p.m)) = wx at HBX HKX ⊢
  obtain ⟨v0, v1, v2, v3, v4⟩ := cell5 HBX.out
  refine bodyPost_ret (v := .tuple #[.agg #[.int .i64 nx, .int .i64 1, .int .i64 (p.l + 1), .int .i64 (sm : Int), .int .i64 p.m], .bool true]) ?_ rfl ⟨by rw [HTD.out]; rfl, ?_⟩
  ·simp [results, Tryz.results96, go_sem, v0, v1, v2, v3, v4]
  ·rw [HTD.out, HTT.out]
   refine ⟨F5, G5, HD5.out.kept HKX.out (fun i hi hm => ?_) (fun i hi hm => ?_), fun i hi => (HS5.out i hi).imp id (fun h => by have h1 := HK1.out.size; omega), ?_⟩
   ·simp at hm
    rcases hm with rfl | rfl
    ·exact HYF.out.1 (List.mem_append_left _ hi)
    ·exact HYF.out.2 (List.mem_append_left _ hi)
   ·simp at hm
    rcases hm with rfl | rfl
    ·exact HYF.out.1 (List.mem_append_right _ hi)
    ·exact HYF.out.2 (List.mem_append_right _ hi)
   ·exact ((HK1.out.mono (S' := F ++ G) (by simp)).trans HK5.out (fun i hi => .inl hi)).trans HKX.out (fun i hi => .inr (by have h1 := HSZ.out; have h2 := HK1.out.size; simp at hi; omega))
end Go.Proofs.YtgifeilmidpkeaaGreat.sc
