import Derived.Test.YtolbalafhfpjbaaGreatPWriterCollect
import Derived.Test.YtolbalafhfpjbaaGreatPRecordCore
namespace Go.Proofs.YtolbalafhfpjbaaGreat.wr
set_option linter.unusedSimpArgs false
set_option linter.unusedVariables false
open Go.RowKit mem base disk owns geom
open sc (Ps Seal sealed Reads putk)
open us (Rw inState TAt)
open item (It Items)
open record (Rc RcAt cell5 put5 put5_kept)
attribute [local go_sem] Oper.semAt_some
def blksOf (bl : List UInt8) (K : Nat) : List (List UInt8) := (List.range K).map fun k => disk.sec bl k
def recAt (p : Ps) (its : List It) (bl : List UInt8) (K : Nat) : Rc := ⟨p.m, p.l, p.v, its, blksOf bl K⟩
theorem blksOf_len (bl : List UInt8) (K : Nat) : (blksOf bl K).length = K := by simp [blksOf]
set_option maxRecDepth 100000 in
set_option maxHeartbeats 4000000 in
theorem lay_any (v d g tp V n c m e : Nat) (p : Ps) (A H : Option Addr) (b s l r q : Int) (F : List Nat) (D : Dk) (T : List Rw) (L : Option Addr) (nl cl : Nat) (its : List It) (Hb : Option Addr) (cb K : Nat) (bl : List UInt8) (a : Nat) (w : World)
  (h : WAt w v d g tp p A n c H m e) (hg : GAt w g b s l r q) (hv : VD w F d D) (ht : TAt w tp V b s l r q T) (hR : Reads D)
  (hap : v ∉ F ∧ tp ∉ F ∧ V ∉ F ∧ g ∉ F ∧ v ≠ V) (hit : Items w [] L its) (hil : its.length = nl) (hbl : Vals w [] Hb (bl.map B)) (hbn : bl.length = 64 * K) (hcb : 64 * K ≤ cb)
  (hp : 0 ≤ p.s ∧ p.s ≤ s - 1) (hpo : 1 ≤ p.o ∧ p.o ≤ 1000) (ha : 2 + 2 * r + 4 * q + p.s * l + p.o = (a : Int)) (hn : a + (1 + K) ≤ D.n) (hac : D.acts ≤ 900000) (hok : (recAt p its bl K).ok) :
  Calls Tryz.prog 112 #[.pointer (some ⟨v, 0, none⟩), .slice L nl cl, .slice Hb (64 * K) cb] w fun e' w' => e' = .returned (.tuple #[(⟨p.s, p.o + (1 + K), p.l + 1, ((recAt p its bl K).sum : Int), p.m⟩ : Ps).val, .int .i64 0]) ∧
   ∃ F', VD w' F' d (putk D (a : Int) (recAt p its bl K).bytes (1 + K)) ∧ TAt w' tp V b s l r q (us.touchOf T p.s p.l) ∧ (∀ x ∈ F', x ∈ F ∨ w.heap.size ≤ x) ∧ Kept (V :: F) w w' := by
 obtain ⟨ad, hA⟩ : ∃ ad, 0 < K → Hb = some ad := by
  by_cases hK0 : 0 < K
  ·obtain ⟨x, hx⟩ : ∃ x, bl[0]? = some x := ⟨_, List.getElem?_eq_getElem (by omega)⟩
   obtain ⟨ad, e, _⟩ := hbl 0 (B x) (by rw [List.getElem?_map, hx]; rfl)
   exact ⟨ad, fun _ => e⟩
  ·exact ⟨⟨0, 0, none⟩, fun h => absurd h hK0⟩
 have hK6 : K ≤ 6 := by
  have h1 := hok.few
  have h2 := blksOf_len bl K
  unfold recAt at h1
  dsimp only at h1
  omega
 obtain ⟨y, hy⟩ : ∃ y, w.heap.size = y := ⟨_, rfl⟩
 obtain ⟨w1, hw1⟩ : ∃ w1, ((w.alloc (.cells #[.pointer (some ⟨v, 0, none⟩)] 79)).alloc (.cells #[.int .i64 0, .int .i64 0, .int .i64 0, .int .i64 0, .int .i64 0] 24)).alloc (.cells #[.int .i64 0] 45) = w1 := ⟨_, rfl⟩
 have k1 : Kept [] w w1 := by rw [← hw1]; exact (((Kept.refl [] w).alloc _).alloc _).alloc _
 have z1 : w1.heap.size = y + 1 + 1 + 1 := by rw [← hw1]; simp [hy]
 have b0 : Blk w1 y 79 #[.pointer (some ⟨v, 0, none⟩)] := by rw [← hw1, ← hy]; exact ((Blk.new w _ _).alloc _).alloc _
 have b1 : Blk w1 (y + 1) 24 #[.int .i64 0, .int .i64 0, .int .i64 0, .int .i64 0, .int .i64 0] := by
  rw [← hw1, ← hy]
  have := (Blk.new (w.alloc (.cells #[.pointer (some ⟨v, 0, none⟩)] 79)) 24 #[.int .i64 0, .int .i64 0, .int .i64 0, .int .i64 0, .int .i64 0]).alloc (.cells #[.int .i64 0] 45)
  rw [World.size_alloc] at this
  exact this
 have b2 : Blk w1 (y + 1 + 1) 45 #[.int .i64 0] := by
  rw [← hw1, ← hy]
  have := Blk.new ((w.alloc (.cells #[.pointer (some ⟨v, 0, none⟩)] 79)).alloc (.cells #[.int .i64 0, .int .i64 0, .int .i64 0, .int .i64 0, .int .i64 0] 24)) 45 #[.int .i64 0]
  simp only [World.size_alloc] at this
  exact this
 obtain ⟨w2, hw2⟩ : ∃ w2, w1.alloc (.cells #[.int .i64 p.s, .int .i64 p.o, .int .i64 p.l, .int .i64 p.v, .int .i64 p.m] 24) = w2 := ⟨_, rfl⟩
 have k2 : Kept [] w1 w2 := by rw [← hw2]; exact (Kept.refl [] w1).alloc _
 have z2 : w2.heap.size = y + 1 + 1 + 1 + 1 := by rw [← hw2]; simp [z1]
 have b3 : Blk w2 (y + 1 + 1 + 1) 24 #[.int .i64 p.s, .int .i64 p.o, .int .i64 p.l, .int .i64 p.v, .int .i64 p.m] := by rw [← hw2, ← z1]; exact Blk.new w1 _ _
 obtain ⟨w3, hw3⟩ : ∃ w3, w2.alloc (.cells #[.int .i64 p.m, .int .i64 p.l, .int .i64 p.v, .slice L nl cl, .slice none 0 0] 111) = w3 := ⟨_, rfl⟩
 have k3 : Kept [] w2 w3 := by rw [← hw3]; exact (Kept.refl [] w2).alloc _
 have z3 : w3.heap.size = y + 1 + 1 + 1 + 1 + 1 := by rw [← hw3]; simp [z2]
 have b4 : Blk w3 (y + 1 + 1 + 1 + 1) 111 #[.int .i64 p.m, .int .i64 p.l, .int .i64 p.v, .slice L nl cl, .slice none 0 0] := by rw [← hw3, ← z2]; exact Blk.new w2 _ _
 obtain ⟨q3, q4, q5, q6, q7⟩ := (h.keep k1).place
 have q0 : w1.cell? ⟨y, 0, none⟩ = some (.pointer (some ⟨v, 0, none⟩)) := b0.cell 0
 obtain ⟨p0, p1, p2, p3, p4⟩ := cell5 b3
 have HW3 := hide hw3
 have HB0 := hide (k3.blk (k2.blk b0 (by simp)) (by simp))
 have HB1 := hide (k3.blk (k2.blk b1 (by simp)) (by simp))
 have HB2 := hide (k3.blk (k2.blk b2 (by simp)) (by simp))
 have HB3 := hide (k3.blk b3 (by simp))
 have HB4 := hide b4
 have HKW := hide ((k1.trans k2 (by simp)).trans k3 (by simp))
 have HW := hide h
 have HG := hide hg
 have HV := hide hv
 have HT := hide ht
 have HR := hide hR
 have HAP := hide hap
 have HIT := hide hit
 have HBL := hide hbl
 have HBN := hide hbn
 have HCB := hide hcb
 have HP := hide hp
 have HA := hide ha
 have HN := hide hn
 have HAC := hide hac
 have HOK := hide hok
 have HIL := hide hil
 have HY := hide hy
 clear h hg hv ht hR hap hit hbl hbn hcb hp ha hn hac hok hil k1 k2 k3 b0 b1 b2 b3 b4 hw3
 obtain ⟨by_, hby⟩ : ∃ by_, (recAt p its bl K).bytes = by_ := ⟨_, rfl⟩
 obtain ⟨sm, hsm⟩ : ∃ sm, (recAt p its bl K).sum = sm := ⟨_, rfl⟩
 rw [hby, hsm]
 have HBY := sealed hby
 have HSM := sealed hsm
 clear hby hsm
 refine callsIn_wide.1 (callsIn_of_wp_marks (n := 3) Tryz.func112 rfl trivial ?_ rfl)
 refine (wpIn_wide (n := 3)).2 ?_
 simp only [Tryz.ntmps112, List.size_toArray, List.length_cons, List.length_nil, Nat.reduceAdd, Nat.reduceSub, Array.replicate_succ, Array.replicate_zero, List.push_toArray, List.append_toArray, List.nil_append, List.cons_append]
 go_wp2_with fail
 rw [HW3.out]
 refine (chunk_any Hb (64 * K) cb _).mono ?_
 rintro e1 w4 ⟨rfl, hw4⟩
 have k4 : Kept [] w3 w4 := by rw [hw4]; exact ((Kept.refl [] w3).alloc _).alloc _
 have x1 : w4.cell? ⟨y + 1 + 1 + 1 + 1 + 1, 0, none⟩ = some (.slice Hb (64 * K) cb) := by
  rw [hw4, ← z3]
  exact ((Blk.new w3 41 #[.slice Hb (64 * K) cb]).alloc _).cell 0
 have x2 : w4.cell? ⟨y + 1 + 1 + 1 + 1 + 1 + 1, 0, none⟩ = some (.int .i64 64) := by
  rw [hw4, ← z3]
  have := Blk.new (w3.alloc (.cells #[.slice Hb (64 * K) cb] 41)) 3 #[.int .i64 64]
  rw [World.size_alloc] at this
  exact this.cell 0
 have hs4 : y + 1 + 1 + 1 + 1 + 1 + 1 < w4.heap.size := by rw [hw4]; simp [z3]
 have HB4b := hide (k4.blk HB4.out (by simp))
 have HK4 := hide (HKW.out.trans k4 (by simp))
 have HK34 := hide k4
 have HA1 := hide hA
 have HX := hide (show w4.cell? ⟨y + 1 + 1 + 1 + 1 + 1, 0, none⟩ = some (.slice Hb (64 * K) cb) ∧ w4.cell? ⟨y + 1 + 1 + 1 + 1 + 1 + 1, 0, none⟩ = some (.int .i64 64) from ⟨x1, x2⟩)
 have HS4 := hide hs4
 clear k4 x1 x2 hw4 q3 q4 q5 q6 q7 q0 p0 p1 p2 p3 p4 hw1 hw2 z1 z2 hs4 hA
 go_wp2_with fail
 refine (collect_any (y + 1 + 1 + 1 + 1 + 1) (y + 1 + 1 + 1 + 1 + 1 + 1) ad Hb cb K _ HA1.out HCB.out (by omega) (by have := HS4.out; omega) HS4.out HX.out.1 HX.out.2).mono ?_
 rintro e1 w5 ⟨P, cp, rfl, hpv, hk5⟩
 have HPV := hide (hpv [y + 1 + 1 + 1 + 1] (fun i hi => by simp at hi; have := HS4.out; omega))
 have hb5 := hk5.blk HB4b.out (by simp)
 obtain ⟨r0, r1, r2, r3, r4⟩ := cell5 hb5
 have fz := hb5.frozen
 have HB5 := hide hb5
 have HK5 := hide (HK4.out.trans hk5 (by simp))
 have HK35 := hide (HK34.out.trans hk5 (by simp))
 clear hpv hk5 hb5 HX HB4b HK4 HK34
 go_wp2_with fail
 have HB6 := hide (Blk.set_ HB5.out 4 (.slice P K cp))
 have hkS : Kept [y + 1 + 1 + 1 + 1] w5 (w5.setCell ⟨y + 1 + 1 + 1 + 1, 4, none⟩ (.slice P K cp)) := (Kept.refl _ w5).set_ (b := y + 1 + 1 + 1 + 1) (.inl (by simp)) 4 (.slice P K cp)
 obtain ⟨w6, hw6⟩ : ∃ w6, w5.setCell ⟨y + 1 + 1 + 1 + 1, 4, none⟩ (.slice P K cp) = w6 := ⟨_, rfl⟩
 rw [hw6] at hkS ⊢
 have HKS := hide hkS
 have hz0 : w.heap.size ≤ y + 1 + 1 + 1 + 1 := by have := HY.out; omega
 have hRat : RcAt w6 L nl P K (recAt p its bl K) := ⟨HIL.out, blksOf_len bl K, ((Vals.away HIT.out (S' := [y + 1 + 1 + 1 + 1]) (fun i hi => .inr (by simp at hi; omega))).kept HK5.out (by simp)).kept hkS (by simp) |>.mono (S' := []) (by simp),
  ⟨(List.range K).map fun k => Value.slice (some (ad.add (64 * k))) 64 64, by simp [recAt, blksOf], (HPV.out.kept hkS (by simp)).mono (by simp), fun i bs hb => by
   have hlt : i < K := by
    have h1 := (List.getElem?_eq_some_iff.1 hb).1
    simp [recAt, blksOf] at h1
    exact h1
   have hbs : bs = disk.sec bl i := by
    simp [recAt, blksOf, hlt] at hb
    exact hb.symm
   have h64 : bs.length = 64 := by rw [hbs]; exact disk.sec_length bl i K HBN.out hlt
   refine ⟨some (ad.add (64 * i)), 64, by simp [hlt, h64], by omega, ?_⟩
   have h1 := (((Vals.away HBL.out (S' := [y + 1 + 1 + 1 + 1]) (fun j hj => .inr (by simp at hj; omega))).kept HK5.out (by simp)).kept hkS (by simp)).mono (S' := []) (by simp)
   have h2 := h1.cut (64 * i) 64
   rw [HA1.out (by omega), ← List.map_drop, ← List.map_take] at h2
   rw [hbs]
   exact h2⟩⟩
 have HRA := hide hRat
 have HE := hide (fun W hra => record.encode_yes (recAt p its bl K) L P nl cl K cp W hra HOK.out)
 have HSUM := hide (show (recAt p its bl K).m = p.m ∧ (recAt p its bl K).l = p.l ∧ (recAt p its bl K).p = p.v from ⟨rfl, rfl, rfl⟩)
 have HBYL := hide (Rc.bytes_len HOK.out)
 rw [show (recAt p its bl K).bks.length = K from blksOf_len bl K] at HBYL
 have hs6 := hkS.size
 have hs35 := HK35.out.size
 have HZ6 := hide (show y + 1 + 1 + 1 + 1 + 1 ≤ w6.heap.size by omega)
 rw [HBY.out, HSM.out] at HE
 rw [HBY.out] at HBYL
 have HK06 := hide (HK5.out.trans hkS (fun i hi => by simp at hi; exact .inr (by omega)))
 have HK36 := hide ((HK35.out.mono (S' := [y + 1 + 1 + 1 + 1]) (by simp)).trans hkS (by simp))
 clear hRat hw6 hkS r0 r1 r2 r3 r4 fz HB6 HB5 HK5 HPV hs6 hs35
 refine (HE.out _ HRA.out).mono ?_
 rintro e1 w7 ⟨Pe, ce, rfl, hnb, hk7⟩
 have HNB := hide hnb
 have HK7 := hide hk7
 clear hnb hk7
 have h00 : ((0 : Int) != 0) = false := by decide
 go_wp2_with fail
 refine (chunk_any Pe (64 * (1 + K)) ce _).mono ?_
 rintro e1 w8 ⟨rfl, hw8⟩
 obtain ⟨z, hz⟩ : ∃ z, w7.heap.size = z := ⟨_, rfl⟩
 rw [hz] at ⊢
 have k8 : Kept [] w7 w8 := by rw [hw8]; exact ((Kept.refl [] w7).alloc _).alloc _
 have x1 : w8.cell? ⟨z, 0, none⟩ = some (.slice Pe (64 * (1 + K)) ce) := by
  rw [hw8, ← hz]
  exact ((Blk.new w7 41 #[.slice Pe (64 * (1 + K)) ce]).alloc _).cell 0
 have x2 : w8.cell? ⟨z + 1, 0, none⟩ = some (.int .i64 64) := by
  rw [hw8, ← hz]
  have := Blk.new (w7.alloc (.cells #[.slice Pe (64 * (1 + K)) ce] 41)) 3 #[.int .i64 64]
  rw [World.size_alloc] at this
  exact this.cell 0
 have s8 : w8.heap.size = z + 1 + 1 := by rw [hw8]; simp [hz]
 obtain ⟨ge, hge, hge6, harr⟩ := HNB.out.pos (by rw [HBYL.out]; omega)
 obtain ⟨adE, hadE⟩ : ∃ adE, Pe = some adE := ⟨_, hge⟩
 subst hadE
 clear hge
 have hzy : y + 1 + 1 + 1 + 1 + 1 ≤ z := by have h1 := HK7.out.size; have h2 := HZ6.out; omega
 have hgz : ge < z := by rw [← hz]; exact harr.lt
 have hce : 64 * (1 + K) ≤ ce := by have := harr.len; rw [HBYL.out] at this; exact this
 have HKA3 := hide (((HK36.out.trans HK7.out (by simp)).trans k8 (by simp)))
 have HK08 := hide ((HK06.out.trans HK7.out (by simp)).trans k8 (by simp))
 have h4n : ∀ i, i < y + 1 + 1 + 1 + 1 → i ∉ [y + 1 + 1 + 1 + 1] := fun i hi hm => by simp at hm; omega
 have HB0b := hide (HKA3.out.blk HB0.out (h4n _ (by omega)))
 have HB1b := hide (HKA3.out.blk HB1.out (h4n _ (by omega)))
 have HB2b := hide (HKA3.out.blk HB2.out (h4n _ (by omega)))
 have HB3b := hide (HKA3.out.blk HB3.out (h4n _ (by omega)))
 have hlow := HY.out
 have HW8 := hide (HW.out.keep HK08.out)
 have HG8 := hide (HG.out.kept HK08.out)
 have HT8 := hide (HT.out.keep HK08.out)
 have HV8 := hide (HV.out.kept HK08.out (by simp))
 have HFL := hide (show ∀ x ∈ F, x < y from fun x hx => by have := HV.out.lt x hx; omega)
 have HVL := hide (show v < y ∧ g < y ∧ tp < y ∧ V < y from ⟨by have := HW.out.lt; omega, by have := HG.out.lt; omega, by have := HT.out.tab.lt; omega, by have := HT.out.seg.lt; omega⟩)
 have HBV := hide (show Vals w8 ((y + 1 + 1 + 1) :: F) (some adE) (by_.map B) from (HNB.out.vals (fun i hi => by
  rcases List.mem_cons.1 hi with rfl | hi
  ·have := HZ6.out; omega
  ·have h1 := HFL.out i hi; have := HZ6.out; omega)).kept k8 (by simp))
 have HS8 := hide s8
 have HX8 := hide (show w8.cell? ⟨z, 0, none⟩ = some (.slice (some adE) (64 * (1 + K)) ce) ∧ w8.cell? ⟨z + 1, 0, none⟩ = some (.int .i64 64) from ⟨x1, x2⟩)
 have HCE := hide hce
 have HZZ := hide hzy
 have HGZ := hide (show ge < z ∧ y + 1 + 1 + 1 + 1 + 1 ≤ ge from ⟨hgz, by have := HZ6.out; omega⟩)
 clear k8 x1 x2 hw8 hz hge6 harr hgz hce h4n hlow HNB HK7 HKA3 HK36 HK06 HRA HE HB0 HB1 HB2 HB3 HB4 HW HG HT HV hz0 HKW HIT HBL HA1 s8
 go_wp2
 refine (wpIn_wide (n := 3)).1 ?_
 refine range_turn (w := w8) (n := 3) (by omega) (gf := 210) (lb := #[.pointer (some ⟨z, 0, none⟩), .pointer (some ⟨z + 1, 0, none⟩)]) rfl (enters_of Tryz.func210 (by kernel_rfl) rfl) (fun k : Nat => #[Value.slice (some (adE.add (64 * k))) 64 64]) (fun _ => rfl) (List.range (1 + K)) ((y + 1 + 1 + 1) :: F)
  (fun pre C W => ∃ F', C = (y + 1 + 1 + 1) :: F' ∧ VD W F' d (putk D (a : Int) by_ pre.length) ∧ Blk W (y + 1 + 1 + 1) 24 #[.int .i64 p.s, .int .i64 (p.o + (pre.length : Int)), .int .i64 p.l, .int .i64 p.v, .int .i64 p.m] ∧ (y + 1 + 1 + 1 ∉ F') ∧ (∀ x ∈ F', x ∈ F ∨ w8.heap.size ≤ x) ∧ Vals W ((w8.heap.size + 1) :: w8.heap.size :: (y + 1 + 1 + 1) :: F') (some adE) (by_.map B) ∧ Kept ((y + 1 + 1 + 1) :: F) w8 W) (fun _ _ _ _ => False)
  ?hN (fun _ _ _ _ _ h _ _ _ => h) ?hC (chunk_seq 3 w8 _ z (z + 1) adE (some adE) ce (1 + K) (fun _ => rfl) HCE.out (by omega) (by have := HS8.out; omega) ⟨fun hm => ?hb1, fun hm => ?hb2⟩ HX8.out.1 HX8.out.2) ?hC0 ?h0 ?hround ?hdone (fun _ _ _ _ _ _ h _ _ => h.elim)
 case hN =>
  rintro pre C W W' ⟨F', rfl, h1, h2, h3, h4, h5, h6⟩ hD hD1 hk
  have hS : ∀ i ∈ [w8.heap.size + 1, w8.heap.size], i ∉ (y + 1 + 1 + 1) :: F' := fun i hi hm => by
   simp at hi
   rcases hi with rfl | rfl
   ·exact hD1 hm
   ·exact hD hm
  refine ⟨F', rfl, h1.kept hk (fun x hx hm => hS x hm (by simp [hx])), hk.blk h2 (fun hm => hS _ hm (by simp)), h3, h4, ?_, h6.trans hk (fun i hi => .inr (by simp at hi; omega))⟩
  exact h5.kept hk (fun i hi => by simp at hi ⊢; omega)
 case hC =>
  rintro pre C W ⟨F', rfl, h1, h2, _⟩ i hi
  rcases List.mem_cons.1 hi with rfl | hi
  ·exact h2.lt
  ·exact h1.lt i hi
 case hb1 =>
  have h1 := HZZ.out
  rcases List.mem_cons.1 hm with h | h
  ·omega
  ·have := HFL.out _ h; omega
 case hb2 =>
  have h1 := HZZ.out
  rcases List.mem_cons.1 hm with h | h
  ·omega
  ·have := HFL.out _ h; omega
 case hC0 =>
  intro i hi
  have h1 := HZZ.out
  have h2 := HS8.out
  rcases List.mem_cons.1 hi with rfl | h
  ·omega
  ·have := HFL.out _ h; omega
 case h0 =>
  intro W hk hs
  refine ⟨F, rfl, HV8.out.kept hk (by simp), ?_, fun hm => by have := HFL.out _ hm; omega, fun x hx => .inl hx, (Vals.away HBV.out (S' := (w8.heap.size + 1) :: w8.heap.size :: (y + 1 + 1 + 1) :: F) (fun i hi => by simp at hi; rcases hi with h | h | h | h <;> simp [h])).kept hk (by simp), hk.mono (by simp)⟩
  have := hk.blk HB3b.out (by simp)
  simpa using this
 case hround =>
  rintro lp pre C x W Kk ⟨F', rfl, hvd, hb3, hn3, hsub, hbv, hk8⟩ hpre hD hD1 hWs hKK
  obtain ⟨rfl, hlt⟩ : x = pre.length ∧ pre.length < 1 + K := by
   have h1 := hpre.length_le
   rw [List.length_append, List.length_singleton, List.length_range] at h1
   have h2 := List.prefix_iff_eq_take.1 hpre
   have h3 : (pre ++ [x])[pre.length]? = some x := by simp
   rw [h2, List.getElem?_take_of_lt (by simp), List.getElem?_range (by omega)] at h3
   exact ⟨(Option.some.inj h3).symm, by omega⟩
  gi_wp2
  refine hKK _ _ (Kept.refl [] W) ?_
  intro W2 hk2
  have hS : ∀ i ∈ [w8.heap.size + 1], i ∉ (y + 1 + 1 + 1) :: F' := fun i hi hm => by
   simp at hi
   subst hi
   exact hD1 hm
  have HVD := hide (hvd.kept hk2 (fun x hx hm => hS x hm (by simp [hx])))
  have HB3r := hide (hk2.blk hb3 (fun hm => hS _ hm (by simp)))
  have HKr := hide (hk8.trans hk2 (fun i hi => .inr (by simp at hi; omega)))
  have HBVr := hide (hbv.kept hk2 (fun i hi => by simp at hi ⊢; omega))
  have HSUB := hide hsub
  have HN3 := hide hn3
  have hyF : ∀ i, i < y + 1 + 1 + 1 → i ∉ F → i ∉ F' := fun i hi hf hm => (hsub i hm).elim hf (fun h => by have h1 := HS8.out; have h2 := HZZ.out; omega)
  have hfy : ∀ i, y ≤ i → i ∉ F := fun i hi hm => by have := HFL.out i hm; omega
  have HKF := hide (show ∀ i ∈ (y + 1 + 1 + 1) :: F, i < y ∨ i = y + 1 + 1 + 1 from fun i hi => (List.mem_cons.1 hi).elim .inr (fun h => .inl (HFL.out i h)))
  have HNB3 := hide (show v ∉ (y + 1 + 1 + 1) :: F ∧ g ∉ (y + 1 + 1 + 1) :: F ∧ y ∉ (y + 1 + 1 + 1) :: F from by
   have h1 := HVL.out
   have h2 := HAP.out
   refine ⟨fun hm => ?_, fun hm => ?_, fun hm => ?_⟩
   ·rcases List.mem_cons.1 hm with h | h
    ·omega
    ·exact h2.1 h
   ·rcases List.mem_cons.1 hm with h | h
    ·omega
    ·exact h2.2.2.2.1 h
   ·rcases List.mem_cons.1 hm with h | h
    ·omega
    ·exact hfy y (Nat.le_refl _) h)
  have HNF' := hide (show v ∉ F' ∧ g ∉ F' ∧ y ∉ F' from ⟨hyF v (by have := HVL.out; omega) HAP.out.1, hyF g (by have := HVL.out; omega) HAP.out.2.2.2.1, hyF y (by omega) (hfy y (Nat.le_refl _))⟩)
  have HALL := hide (show ∀ W3, Kept F' W2 W3 → (fun W => W.cell? ⟨y, 0, none⟩ = some (.pointer (some ⟨v, 0, none⟩)) ∧ (W.cell? ⟨v, 0, none⟩ = some (.pointer (some ⟨d, 0, none⟩)) ∧ W.cell? ⟨v, 1, none⟩ = some (.pointer (some ⟨g, 0, none⟩))) ∧ (W.cell? ⟨y + 1 + 1 + 1, 0, none⟩ = some (.int .i64 p.s) ∧ W.cell? ⟨y + 1 + 1 + 1, 1, none⟩ = some (.int .i64 (p.o + (pre.length : Int))))) W3 from fun W3 k => by
   have hw := (HW8.out.kept HKr.out HNB3.out.1).kept k HNF'.out.1
   have hb := k.blk HB3r.out HN3.out
   exact ⟨(k.blk (HKr.out.blk HB0b.out HNB3.out.2.2) HNF'.out.2.2).cell 0, ⟨hw.ptr.1, hw.ptr.2.1⟩, hb.cell 0, hb.cell 1⟩)
  have hwo : IntKind.i64.wrap (2 + 2 * r + 4 * q + p.s * l + (p.o + (pre.length : Int))) = (a : Int) + pre.length := by
   rw [IntWalk.i64_in _ (by have h1 := HA.out; have h2 := HN.out; have h3 := HR.out.ok.n2; omega)]
   have := HA.out
   omega
  have hlive := sc.putk_live HR.out.live HR.out.ok a by_ (1 + K) HN.out HBYL.out pre.length (by omega)
  have HLV := sealed hlive
  have HBK := hide (show Vals W2 F' (some (adE.add (64 * pre.length))) ((disk.sec by_ pre.length).map B) from by
   have h1 := (HBVr.out.mono (S' := F') (fun i hi => by simp [hi])).cut (64 * pre.length) 64
   rw [← List.map_drop, ← List.map_take] at h1
   exact h1)
  have HB64 := hide (disk.sec_length by_ pre.length (1 + K) HBYL.out hlt)
  have HW0e := hide (show ((putk D (a : Int) by_ pre.length).write ((a : Int) + pre.length) (disk.sec by_ pre.length)).1 = 0 from by
   have hx : (putk D (a : Int) by_ pre.length).has ((a : Int) + pre.length) = true := by
    have hnn : (putk D (a : Int) by_ pre.length).n = D.n := by unfold Dk.n; rw [hlive.2.2.1]
    unfold Dk.has
    rw [hnn]
    have := HN.out
    exact decide_eq_true ⟨by omega, by omega⟩
   rw [hlive.1.write _ _ hx HB64.out])
  have HSEGb := hide (show Kept [] W2 W2.drew from (Kept.refl [] W2).drew)
  clear hvd hb3 hn3 hsub hbv hk8 hKK hk2 hS hyF hfy hlive
  gi_wp2
  refine round_held (S := fun W => W.cell? ⟨y, 0, none⟩ = some (.pointer (some ⟨v, 0, none⟩)) ∧ (W.cell? ⟨v, 0, none⟩ = some (.pointer (some ⟨d, 0, none⟩)) ∧ W.cell? ⟨v, 1, none⟩ = some (.pointer (some ⟨g, 0, none⟩))) ∧ (W.cell? ⟨y + 1 + 1 + 1, 0, none⟩ = some (.int .i64 p.s) ∧ W.cell? ⟨y + 1 + 1 + 1, 1, none⟩ = some (.int .i64 (p.o + (pre.length : Int))))) (by kernel_rfl) (by kernel_rfl) (by exact HALL.out _ (HSEGb.out.mono (by simp))) (fun hHeld => ?_)
  refine tK 0 44 rfl ?_
  try simp only [Act.put, pA, pB, pC]
  refine tK 1 45 rfl ?_
  try simp only [Act.put, pA, pB, pC]
  refine tK 2 46 rfl ?_
  try simp only [Act.put, pA, pB, pC]
  refine tK 3 47 rfl ?_
  try simp only [Act.put, pA, pB, pC]
  refine tK 4 48 rfl ?_
  try simp only [Act.put, pA, pB, pC]
  refine tK 5 49 rfl ?_
  try simp only [Act.put, pA, pB, pC]
  refine tK 6 50 rfl ?_
  try simp only [Act.put, pA, pB, pC]
  refine tK 7 51 rfl ?_
  try simp only [Act.put, pA, pB, pC]
  refine tK 8 52 rfl ?_
  try simp only [Act.put, pA, pB, pC]
  refine tK 9 53 rfl ?_
  try simp only [Act.put, pA, pB, pC]
  refine tK 11 55 rfl ?_
  try simp only [Act.put, pA, pB, pC]
  refine tK 12 56 rfl ?_
  try simp only [Act.put, pA, pB, pC]
  refine tK 14 58 rfl ?_
  try simp only [Act.put, pA, pB, pC]
  refine hO 10 (some 54) rfl fun K hK => ?_
  go_simp
  refine (seg_any g b s l r q p.s _ (((HG8.out.kept HKr.out HNB3.out.2.1)).kept HSEGb.out)).mono ?_
  rintro e1 W3 ⟨rfl, hk3⟩
  rw [segIn HP.out]
  have H3 := hide (HSEGb.out.trans hk3 (by simp))
  refine hK.out _ _ (by exact HALL.out _ (H3.out.mono (by simp))) (fun hHeld => ?_)
  clear hK K
  try simp only [Act.put, pA, pB, pC]
  refine tK 13 57 rfl ?_
  try simp only [Act.put, pA, pB, pC]
  refine hO 15 (some 59) rfl fun K hK => ?_
  go_simp
  refine (write_at d F' (putk D (a : Int) by_ pre.length) ((a : Int) + pre.length) (some (adE.add (64 * pre.length))) 64 64 (disk.sec by_ pre.length) _ (HVD.out.kept H3.out (by simp)) (by have h1 := HLV.out.2.2.2.2.1; have h2 := HAC.out; omega) (HBK.out.kept H3.out (by simp)) HB64.out).mono ?_
  rintro e1 W4 ⟨rfl, F2, ht1, ht2, ht3⟩
  have HV4 := hide (show VD W4 F2 d (putk D (a : Int) by_ (pre.length + 1)) from ht1)
  have HF4 := hide (show ∀ x ∈ F2, x ∈ F' ∨ W2.heap.size ≤ x from fun x hx => (ht2 x hx).imp id (fun h => Nat.le_trans H3.out.size h))
  have HK4 := hide ((H3.out.mono (S' := F') (by simp)).trans ht3 (fun i hi => .inl hi))
  rw [HW0e.out]
  clear ht1 ht2 ht3
  refine hK.out _ _ (by exact HALL.out _ HK4.out) (fun hHeld => ?_)
  clear hK K
  try simp only [Act.put, pA, pB, pC]
  refine tK 16 14 rfl ?_
  try simp only [Act.put, pA, pB, pC]
  refine wpAnyH_done (by kernel_rfl) ?_ _
  refine Only.normal ?_
  have hb4 := HK4.out.blk HB3r.out HN3.out
  obtain ⟨j0, j1, j2, j3, j4⟩ := cell5 hb4
  have fj := hb4.frozen
  have HB4f := hide (Blk.set_ hb4 1 (.int .i64 (p.o + (pre.length : Int) + 1)))
  have hks := (Kept.refl [y + 1 + 1 + 1] W4).set_ (b := y + 1 + 1 + 1) (.inl (by simp)) 1 (.int .i64 (p.o + (pre.length : Int) + 1))
  have HKS4 := hide hks
  have hwl : IntKind.i64.wrap (p.o + (pre.length : Int) + 1) = p.o + (pre.length : Int) + 1 := IntWalk.i64_in _ (by omega)
  have hn4 : y + 1 + 1 + 1 ∉ F2 := fun hm => (HF4.out _ hm).elim HN3.out (fun h => by have h1 := HB3r.out.lt; omega)
  have HN4 := hide hn4
  have h2s : w8.heap.size ≤ W2.heap.size := HKr.out.size
  have HS2 := hide h2s
  clear hb4 hks hn4
  gi_wp2
  refine ⟨(y + 1 + 1 + 1) :: F2, fun i hi => ?_, ?_, F2, rfl, ?_, ?_, HN4.out, fun i hi => ?_, ?_, ?_⟩
  ·rcases List.mem_cons.1 hi with rfl | hi
   ·exact .inl (by simp)
   ·exact (HF4.out i hi).imp (fun h => by simp [h]) id
  ·exact (HK4.out.mono (S' := (y + 1 + 1 + 1) :: F') (fun i hi => by simp [hi])).trans HKS4.out (fun i hi => .inl (by simp at hi; simp [hi]))
  ·rw [List.length_append, List.length_singleton]
   exact HV4.out.kept HKS4.out (fun x hx hm => by simp at hm; subst hm; exact HN4.out hx)
  ·rw [List.length_append, List.length_singleton]
   have := HB4f.out
   simpa [Int.add_assoc] using this
  ·exact (HF4.out i hi).elim (fun h => HSUB.out i h) (fun h => .inr (by omega))
  ·exact (((Vals.away HBVr.out (S' := F2 ++ ((w8.heap.size + 1) :: w8.heap.size :: (y + 1 + 1 + 1) :: F')) (fun i hi => (List.mem_append.1 hi).elim (fun h => (HF4.out i h).imp (fun h2 => by simp [h2]) id) .inl)).kept HK4.out (fun i hi => by simp [hi])).kept HKS4.out (fun i hi => by simp at hi; simp [hi])).mono (fun i hi => by simp at hi; rcases hi with h | h | h | h <;> simp [h])
  ·exact (HKr.out.trans HK4.out (fun i hi => (HSUB.out i hi).imp (fun h => by simp [h]) id)).trans HKS4.out (fun i hi => .inl (by simp at hi; simp [hi]))
 case hdone =>
  rintro D2 C W hD2 ⟨F', rfl, hvd, hb3, hn3, hsub, hbv, hk8⟩ hDC hK
  rw [List.length_range] at hvd hb3
  have hyF : ∀ i, i < y + 1 + 1 + 1 → i ∉ F → i ∉ F' := fun i hi hf hm => (hsub i hm).elim hf (fun h => by have h1 := HS8.out; have h2 := HZZ.out; omega)
  have hfy : ∀ i, y ≤ i → i ∉ F := fun i hi hm => by have := HFL.out i hm; omega
  have hN3 : ∀ i, i ≠ y + 1 + 1 + 1 → i ∉ F → i ∉ (y + 1 + 1 + 1) :: F := fun i h1 h2 hm => (List.mem_cons.1 hm).elim h1 h2
  have HWd := hide (HW8.out.kept hk8 (hN3 v (by have := HVL.out; omega) HAP.out.1))
  have HTd := hide (HT8.out.kept hk8 (hN3 tp (by have := HVL.out; omega) HAP.out.2.1) (hN3 V (by have := HVL.out; omega) HAP.out.2.2.1))
  have HB0d := hide (hk8.blk HB0b.out (hN3 y (by omega) (hfy y (Nat.le_refl _))))
  have HB1d := hide (hk8.blk HB1b.out (hN3 _ (by omega) (hfy _ (by omega))))
  have HB2d := hide (hk8.blk HB2b.out (hN3 _ (by omega) (hfy _ (by omega))))
  have HB3d := hide hb3
  have HVd := hide hvd
  have HKd := hide hk8
  have HSUB := hide hsub
  have HDK := hide hK
  have HD2 := hide hD2
  have HDC := hide hDC
  have HVF' := hide (show V ∉ F' ∧ V ≠ y + 1 + 1 + 1 ∧ V < y from ⟨hyF V (by have := HVL.out; omega) HAP.out.2.2.1, by have := HVL.out; omega, by have := HVL.out; omega⟩)
  have HALL := hide (show ∀ W3, Kept [V] W W3 → (fun W => W.cell? ⟨y, 0, none⟩ = some (.pointer (some ⟨v, 0, none⟩)) ∧ W.cell? ⟨v, 2, none⟩ = some (.pointer (some ⟨tp, 0, none⟩)) ∧ (W.cell? ⟨y + 1 + 1 + 1, 0, none⟩ = some (.int .i64 p.s) ∧ W.cell? ⟨y + 1 + 1 + 1, 2, none⟩ = some (.int .i64 p.l))) W3 from fun W3 k => by
   have hb := k.blk HB3d.out (by have := HVF'.out; simp; omega)
   exact ⟨(k.blk HB0d.out (by have := HVF'.out; simp; omega)).cell 0, (HWd.out.kept k (by have := HAP.out.2.2.2.2; simpa using this)).ptr.2.2, hb.cell 0, hb.cell 2⟩)
  have HSEGb := hide (show Kept [] W W.drew from (Kept.refl [] W).drew)
  have hl1 : IntKind.i64.wrap (p.l + 1) = p.l + 1 := IntWalk.i64_in _ (by have h1 := HOK.out.2.1; have h2 := HSUM.out; omega)
  clear hvd hb3 hn3 hsub hbv hk8 hyF hfy hN3 hK hD2 hDC
  go_wp2
  refine wp_region_noPanic ?_
  refine wp_region_held_drew (S := fun W => W.cell? ⟨y, 0, none⟩ = some (.pointer (some ⟨v, 0, none⟩)) ∧ W.cell? ⟨v, 2, none⟩ = some (.pointer (some ⟨tp, 0, none⟩)) ∧ (W.cell? ⟨y + 1 + 1 + 1, 0, none⟩ = some (.int .i64 p.s) ∧ W.cell? ⟨y + 1 + 1 + 1, 2, none⟩ = some (.int .i64 p.l))) (by kernel_rfl) (by exact HALL.out _ (HSEGb.out.mono (by simp))) (fun hHeld => ?_)
  refine tK 0 68 rfl ?_
  try simp only [Act.put, pA, pB, pC]
  refine tK 1 69 rfl ?_
  try simp only [Act.put, pA, pB, pC]
  refine tK 2 70 rfl ?_
  try simp only [Act.put, pA, pB, pC]
  refine tK 3 71 rfl ?_
  try simp only [Act.put, pA, pB, pC]
  refine tK 4 72 rfl ?_
  try simp only [Act.put, pA, pB, pC]
  refine tK 5 73 rfl ?_
  try simp only [Act.put, pA, pB, pC]
  refine tK 6 74 rfl ?_
  try simp only [Act.put, pA, pB, pC]
  refine tK 7 75 rfl ?_
  try simp only [Act.put, pA, pB, pC]
  refine hO 8 (some 76) rfl fun K hK => ?_
  go_simp
  refine (us.touch_any (HTd.out.keep HSEGb.out) p.s p.l).mono ?_
  rintro e1 W5 ⟨rfl, ht5, hk5⟩
  have HT5 := hide ht5
  have HK5d := hide ((HSEGb.out.mono (S' := [V]) (by simp)).trans hk5 (fun i hi => .inl hi))
  refine hK.out _ _ (by exact HALL.out _ HK5d.out) (fun hHeld => ?_)
  clear hK K
  try simp only [Act.put, pA, pB, pC]
  refine wpAnyH_done (by kernel_rfl) ?_ _
  refine NoPanic.normal ?_
  clear hHeld
  have hnV : ∀ i, y ≤ i → i ∉ [V] := fun i hi hm => by have := HVF'.out; simp at hm; omega
  have hb3 := HK5d.out.blk HB3d.out (hnV _ (by omega))
  have hb1 := HK5d.out.blk HB1d.out (hnV _ (by omega))
  have hb2 := HK5d.out.blk HB2d.out (hnV _ (by omega))
  obtain ⟨j0, j1, j2, j3, j4⟩ := cell5 hb3
  obtain ⟨r0, r1, r2, r3, r4⟩ := cell5 hb1
  have m0 := hb2.cell 0
  have fj := hb3.frozen
  have fr := hb1.frozen
  have fm := hb2.frozen 0
  go_wp2
  have hA : Kept [y + 1 + 1 + 1] W5 ((W5.setCell ⟨y + 1 + 1 + 1, 2, none⟩ (.int .i64 (p.l + 1))).setCell ⟨y + 1 + 1 + 1, 3, none⟩ (.int .i64 ((sm : Int)))) := ((Kept.refl _ W5).set_ (b := y + 1 + 1 + 1) (.inl (by simp)) 2 (.int .i64 (p.l + 1))).set_ (b := y + 1 + 1 + 1) (.inl (by simp)) 3 (.int .i64 (sm : Int))
  have hB1 := put5 (.int .i64 p.s) (.int .i64 (p.o + (1 + (K : Int)))) (.int .i64 (p.l + 1)) (.int .i64 (sm : Int)) (.int .i64 p.m) (hA.blk hb1 (by simp))
  have hkB := put5_kept (S := [y + 1]) (g := y + 1) (.int .i64 p.s) (.int .i64 (p.o + (1 + (K : Int)))) (.int .i64 (p.l + 1)) (.int .i64 (sm : Int)) (.int .i64 p.m) (Kept.refl [y + 1] ((W5.setCell ⟨y + 1 + 1 + 1, 2, none⟩ (.int .i64 (p.l + 1))).setCell ⟨y + 1 + 1 + 1, 3, none⟩ (.int .i64 ((sm : Int))))) (.inl (by simp))
  have hkC : Kept [y + 1 + 1] (((((((W5.setCell ⟨y + 1 + 1 + 1, 2, none⟩ (.int .i64 (p.l + 1))).setCell ⟨y + 1 + 1 + 1, 3, none⟩ (.int .i64 ((sm : Int)))).setCell ⟨y + 1, 0, none⟩ (.int .i64 (p.s))).setCell ⟨y + 1, 1, none⟩ (.int .i64 (p.o + (1 + (K : Int))))).setCell ⟨y + 1, 2, none⟩ (.int .i64 (p.l + 1))).setCell ⟨y + 1, 3, none⟩ (.int .i64 ((sm : Int)))).setCell ⟨y + 1, 4, none⟩ (.int .i64 (p.m))) ((((((((W5.setCell ⟨y + 1 + 1 + 1, 2, none⟩ (.int .i64 (p.l + 1))).setCell ⟨y + 1 + 1 + 1, 3, none⟩ (.int .i64 ((sm : Int)))).setCell ⟨y + 1, 0, none⟩ (.int .i64 (p.s))).setCell ⟨y + 1, 1, none⟩ (.int .i64 (p.o + (1 + (K : Int))))).setCell ⟨y + 1, 2, none⟩ (.int .i64 (p.l + 1))).setCell ⟨y + 1, 3, none⟩ (.int .i64 ((sm : Int)))).setCell ⟨y + 1, 4, none⟩ (.int .i64 (p.m))).setCell ⟨y + 1 + 1, 0, none⟩ (.int .i64 0)) := (Kept.refl _ _).set_ (b := y + 1 + 1) (.inl (by simp)) 0 (.int .i64 0)
  have hB1c := hkC.blk hB1 (by simp)
  have hB2c := Blk.set_ (hkB.blk (hA.blk hb2 (by simp)) (by simp)) 0 (.int .i64 0)
  have hkx : Kept [y + 1 + 1 + 1, y + 1, y + 1 + 1] W5 ((((((((W5.setCell ⟨y + 1 + 1 + 1, 2, none⟩ (.int .i64 (p.l + 1))).setCell ⟨y + 1 + 1 + 1, 3, none⟩ (.int .i64 ((sm : Int)))).setCell ⟨y + 1, 0, none⟩ (.int .i64 (p.s))).setCell ⟨y + 1, 1, none⟩ (.int .i64 (p.o + (1 + (K : Int))))).setCell ⟨y + 1, 2, none⟩ (.int .i64 (p.l + 1))).setCell ⟨y + 1, 3, none⟩ (.int .i64 ((sm : Int)))).setCell ⟨y + 1, 4, none⟩ (.int .i64 (p.m))).setCell ⟨y + 1 + 1, 0, none⟩ (.int .i64 0)) := ((hA.mono (by simp)).trans hkB (fun i hi => .inl (by simp at hi; simp [hi]))).trans hkC (fun i hi => .inl (by simp at hi; simp [hi]))
  generalize ((((((((W5.setCell ⟨y + 1 + 1 + 1, 2, none⟩ (.int .i64 (p.l + 1))).setCell ⟨y + 1 + 1 + 1, 3, none⟩ (.int .i64 ((sm : Int)))).setCell ⟨y + 1, 0, none⟩ (.int .i64 (p.s))).setCell ⟨y + 1, 1, none⟩ (.int .i64 (p.o + (1 + (K : Int))))).setCell ⟨y + 1, 2, none⟩ (.int .i64 (p.l + 1))).setCell ⟨y + 1, 3, none⟩ (.int .i64 ((sm : Int)))).setCell ⟨y + 1, 4, none⟩ (.int .i64 (p.m))).setCell ⟨y + 1 + 1, 0, none⟩ (.int .i64 0)) = WX at hB1c hB2c hkx ⊢
  clear hA hB1 hkB hkC
  have hd8 : y + 1 + 1 + 1 + 1 < D2 := by have h1 := HD2.out; have h2 := HS8.out; have h3 := HZZ.out; omega
  have HDX := hide (show WX.heap[D2]? = some (.deferred (some [])) from ((hkx.block _ (Nat.lt_of_lt_of_le (Array.getElem?_eq_some_iff.1 HDK.out).1 HK5d.out.size) (by simp; omega)).trans (HK5d.out.block _ (Array.getElem?_eq_some_iff.1 HDK.out).1 (by have := HVF'.out; simp; omega))).trans HDK.out)
  have HPX := hide (kept_putO WX D2 (.deferred none))
  obtain ⟨v0, v1, v2, v3, v4⟩ := cell5 (HPX.out.blk hB1c (by simp; omega))
  have v5 : (WX.putObj D2 (.deferred none)).cell? ⟨y + 1 + 1, 0, none⟩ = some (.int .i64 0) := (HPX.out.blk hB2c (by simp; omega)).cell 0
  have hnD : D2 ∉ F' := fun hm => HDC.out (by simp [hm])
  have hnx : ∀ i ∈ F', i ∉ [y + 1 + 1 + 1, y + 1, y + 1 + 1] := fun i hi hm => by
   rcases HSUB.out i hi with h | h
   ·have := HFL.out i h; simp at hm; omega
   ·have h1 := HS8.out; have h2 := HZZ.out; simp at hm; omega
  refine ⟨by simp, .inl ⟨_, _, rfl, run_takeDeferred HDX.out, ?_⟩⟩
  refine ⟨.tuple #[.agg #[.int .i64 p.s, .int .i64 (p.o + (1 + (K : Int))), .int .i64 (p.l + 1), .int .i64 (sm : Int), .int .i64 p.m], .int .i64 0], by simp [results, Tryz.results112, go_sem, v0, v1, v2, v3, v4, v5], rfl, F', ?_, ?_, fun x hx => ?_, ?_⟩
  ·exact ((HVd.out.kept HK5d.out (fun x hx hm => by simp at hm; subst hm; exact HVF'.out.1 hx)).kept hkx hnx).kept HPX.out (fun x hx hm => by simp at hm; subst hm; exact hnD hx)
  ·exact ((HT5.out.kept hkx (by have := HVL.out; simp; omega) (by have := HVL.out; simp; omega)).kept HPX.out (by have := HVL.out; simp; omega) (by have := HVL.out; simp; omega))
  ·exact (HSUB.out x hx).imp id (fun h => by have h1 := HS8.out; have h2 := HZZ.out; omega)
  ·have h1 := (HK08.out.mono (S' := V :: F) (by simp)).trans HKd.out (fun i hi => (List.mem_cons.1 hi).elim (fun h => .inr (by omega)) (fun h => .inl (by simp [h])))
   have h2 := h1.trans HK5d.out (fun i hi => .inl (by simp at hi; simp [hi]))
   have h3 := h2.trans hkx (fun i hi => .inr (by simp at hi; omega))
   exact h3.trans HPX.out (fun i hi => .inr (by simp at hi; omega))
end Go.Proofs.YtolbalafhfpjbaaGreat.wr
