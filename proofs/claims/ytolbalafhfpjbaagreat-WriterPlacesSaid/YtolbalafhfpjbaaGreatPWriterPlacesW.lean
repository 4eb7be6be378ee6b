import Derived.Test.YtolbalafhfpjbaaGreatPWriterPlacesM
import Derived.Test.YtolbalafhfpjbaaGreatPWriterRMay
import Derived.Test.YtolbalafhfpjbaaGreatPGeomWay
set_option maxRecDepth 100000
set_option maxHeartbeats 8000000
namespace Go.Proofs.YtolbalafhfpjbaaGreat.wr
set_option linter.unusedSimpArgs false
set_option linter.unusedVariables false
open Go.RowKit mem base disk owns geom
open sc (Ps Seal sealed Reads putk)
open us (Rw TAt RAt grabOf shutOf touchOf inState backOf IsT)
open item (It Items valsOf allMay)
open record (cell5 Rc)
theorem in_segw {s l a b : Int} (ha : 0 ≤ a ∧ a ≤ s - 1) (hb : 0 ≤ b ∧ b < l) : 0 ≤ a * l ∧ a * l + b < s * l := by
 refine ⟨Int.mul_nonneg ha.1 (by omega), ?_⟩
 have : (a + 1) * l ≤ s * l := Int.mul_le_mul_of_nonneg_right (by omega) (by omega)
 rw [Int.add_mul] at this
 omega
theorem where_inw (p : Nat) (b s l r q x y : Int) (w : World) (h : GAt w p b s l r q) (hx : 0 ≤ x ∧ x ≤ s - 1) (hy : 0 ≤ y ∧ y < l) :
  Calls Tryz.prog 61 #[.pointer (some ⟨p, 0, none⟩), .int .i64 (2 + 2 * r + 4 * q + x * l + y)] w fun e w' => e = .returned (.tuple #[.int .i64 x, .int .i64 y, .bool true]) ∧ Kept [] w w' := by
 have hm := in_segw hx hy
 refine (where_yes p b s l r q _ w h (by unfold isIn; omega)).mono fun e w' ⟨he, hk⟩ => ⟨?_, hk⟩
 have h1 : 2 + 2 * r + 4 * q + x * l + y - (2 + 2 * r + 4 * q) = y + x * l := by omega
 have h2 : (y + x * l) / l = x := by
  rw [Int.add_mul_ediv_right _ _ (by omega), Int.ediv_eq_zero_of_lt hy.1 hy.2]
  omega
 have h3 : (y + x * l) % l = y := by
  rw [Int.add_mul_emod_self_right]
  exact Int.emod_eq_of_lt hy.1 hy.2
 rw [he, h1, h2, h3]
theorem among_any (A : Option Addr) (n c : Nat) (vs : List Int) (x : Int) (w : World) (h : Vals w [] A (vs.map I)) (hl : vs.length = n) (hn : n ≤ 1000) (hx : ∀ y ∈ vs, y ≠ x) :
  Calls Tryz.prog 62 #[.slice A n c, .int .i64 x] w fun e w' => e = .returned (.bool false) ∧ w = w' := by
 have HV := hide h
 have HX := hide hx
 clear h hx
 go_enter Tryz.func62, Tryz.ntmps62
 go_wp2
 go_loopw [5] (fun i wr => ∃ k : Nat, k ≤ n ∧ i = .int .i64 k ∧ wr = w) (fun i _ => n - (intOf i).toNat)
 case atStart => exact ⟨0, Nat.zero_le _, rfl, rfl⟩
 case round =>
  obtain ⟨k, hk, rfl, rfl⟩ := hrel
  by_cases hlt : k < n
  ·obtain ⟨y, hy⟩ : ∃ y, vs[k]? = some y := ⟨_, List.getElem?_eq_getElem (by omega)⟩
   obtain ⟨ad, rfl, _, g0⟩ := HV.out k (I y) (by rw [List.getElem?_map, hy]; rfl)
   unfold I at g0
   have hd : (y == x) = false := beq_eq_false_iff_ne.2 (HX.out y (List.mem_of_getElem? hy))
   clear hy
   go_wp2
   go_roundw
   case rel => exact ⟨k + 1, by omega, by go_num, trivial⟩
   case measure => simp [intOf]; omega
  ·obtain rfl : k = n := by omega
   go_wp2
   go_ret
   exact ⟨rfl, rfl⟩
structure KdOk (w w' : World) (i : Nat) (it : It) (Bp : Option Addr) (nb : Nat) (bb : List UInt8) : Prop where
 add : addOk it nb
 len : bb.length = nb
 yes : it.loaded = true → nb = 64 ∧ bb = fillOf (i : Int)
 no : it.loaded = false → nb = 0
 vals : ∀ S : List Nat, (∀ x ∈ S, x < w.heap.size) → Vals w' S Bp (bb.map B)
 kept : Kept [] w w'
def kd2 (i : Nat) : It := ⟨2, ((i % 8 : Nat) : Int), 1, 0⟩
def kd3 (i : Nat) : It := ⟨3, 0, 0, (i : Int) + 1⟩
def kd5 (i : Nat) : It := ⟨5, ((i % 8 : Nat) : Int), 0, 0⟩
def kd1 (i : Nat) : It := ⟨1, ((i % 8 : Nat) : Int), 0, 0⟩
theorem kd_ok : ∀ i, i < 100 → (addOk (kd2 i) 0 ∧ (kd2 i).loaded = false) ∧ (addOk (kd3 i) 0 ∧ (kd3 i).loaded = false) ∧ (addOk (kd5 i) 64 ∧ (kd5 i).loaded = true) ∧ (addOk (kd1 i) 64 ∧ (kd1 i).loaded = true) := by decide
theorem kinds_any (x : Int) (i : Nat) (w : World) (hi : i < 100) :
  Calls Tryz.prog 55 #[.int .i64 x, .int .i64 i] w fun e w' => ∃ it Bp nb cb bb, e = .returned (.tuple #[It.val it, .slice Bp nb cb]) ∧ KdOk w w' i it Bp nb bb := by
 have HOK := hide (kd_ok i hi)
 have hmd : (i : Int).tmod 8 = ((i % 8 : Nat) : Int) := by rw [Int.tmod_eq_emod_of_nonneg (by omega)]; rfl
 have hwp : IntKind.i64.wrap ((i : Int) + 1) = (i : Int) + 1 := IntWalk.i64_in _ (by omega)
 obtain ⟨j, hj⟩ : ∃ j : Nat, i % 8 = j := ⟨_, rfl⟩
 have hjb : j < 8 := by omega
 have HJ := hide hj
 rw [hj] at hmd
 have hzc : ∀ vs : Array Value, Blk (w.alloc (.cells vs 84)) w.heap.size 84 vs := fun vs => Blk.new w _ _
 have HZC := hide hzc
 have HKA := hide (show ∀ vs : Array Value, Kept [] w (w.alloc (.cells vs 84)) from fun vs => (Kept.refl [] w).alloc _)
 have hzz : ∀ vs : Array Value, (w.alloc (.cells vs 84)).heap.size = w.heap.size + 1 := fun vs => by simp
 have HZZ := hide hzz
 obtain ⟨y, hy⟩ : ∃ y, x % 4 = y := ⟨_, rfl⟩
 have hyb : 0 ≤ y ∧ y ≤ 3 := by omega
 clear hj hzc hzz
 by_cases h0 : y = 0
 ·have t0 : (y == 0) = true := beq_iff_eq.2 h0
  go_enter Tryz.func55, Tryz.ntmps55
  go_wp2_with fail
  refine (round_any x 4 _ (by omega) (by omega)).mono ?_
  rintro e w' ⟨rfl, rfl⟩
  rw [hy]
  go_wp2
  refine bodyPost_ret (v := .tuple #[It.val (kd2 i), .slice none 0 0]) (by simp [results, Tryz.results55, go_sem, It.val, kd2, HJ.out]) rfl ⟨kd2 i, none, 0, 0, [], rfl, ?_⟩
  exact ⟨HOK.out.1.1, rfl, fun h => absurd (h.symm.trans HOK.out.1.2) (by simp), fun _ => rfl, fun S _ => fun k y hy => by simp at hy, HKA.out _⟩
 have t0 : (y == 0) = false := beq_eq_false_iff_ne.2 h0
 by_cases h1 : y = 1
 ·have t1 : (y == 1) = true := beq_iff_eq.2 h1
  go_enter Tryz.func55, Tryz.ntmps55
  go_wp2_with fail
  refine (round_any x 4 _ (by omega) (by omega)).mono ?_
  rintro e w' ⟨rfl, rfl⟩
  rw [hy]
  go_wp2
  refine bodyPost_ret (v := .tuple #[It.val (kd3 i), .slice none 0 0]) (by simp [results, Tryz.results55, go_sem, It.val, kd3, HJ.out]) rfl ⟨kd3 i, none, 0, 0, [], rfl, ?_⟩
  exact ⟨HOK.out.2.1.1, rfl, fun h => absurd (h.symm.trans HOK.out.2.1.2) (by simp), fun _ => rfl, fun S _ => fun k y hy => by simp at hy, HKA.out _⟩
 have t1 : (y == 1) = false := beq_eq_false_iff_ne.2 h1
 by_cases h2 : y = 2
 ·have t2 : (y == 2) = true := beq_iff_eq.2 h2
  go_enter Tryz.func55, Tryz.ntmps55
  go_wp2_with fail
  refine (round_any x 4 _ (by omega) (by omega)).mono ?_
  rintro e w' ⟨rfl, rfl⟩
  rw [hy]
  go_wp2_with fail
  refine (fill_any (i : Int) _).mono ?_
  rintro e w2 ⟨g, rfl, hg, harr, hk⟩
  have hb := hk.blk (HZC.out #[.int .i64 0, .int .i64 0, .int .i64 0, .int .i64 0]) (by simp)
  have hgz : w.heap.size < g := by have := HZZ.out #[.int .i64 0, .int .i64 0, .int .i64 0, .int .i64 0]; omega
  have hkw := (HKA.out #[.int .i64 0, .int .i64 0, .int .i64 0, .int .i64 0]).trans hk (by simp)
  have c0 := hb.cell 0
  have c1 := hb.cell 1
  have c2 := hb.cell 2
  have c3 := hb.cell 3
  have f0 := hb.frozen 0
  have f1 := hb.frozen 1
  have f2 := hb.frozen 2
  have f3 := hb.frozen 3
  have hlt := hb.lt
  have hbf := ((((hb.set_ 0 (.int .i64 5)).set_ 1 (.int .i64 j)).set_ 2 (.int .i64 0)).set_ 3 (.int .i64 0))
  have e0 : ((((w2.setCell ⟨w.heap.size, 0, none⟩ (.int .i64 5)).setCell ⟨w.heap.size, 1, none⟩ (.int .i64 j)).setCell ⟨w.heap.size, 2, none⟩ (.int .i64 0)).setCell ⟨w.heap.size, 3, none⟩ (.int .i64 0)).cell? ⟨w.heap.size, 0, none⟩ = some (.int .i64 5) := hbf.cell 0
  have e1 : ((((w2.setCell ⟨w.heap.size, 0, none⟩ (.int .i64 5)).setCell ⟨w.heap.size, 1, none⟩ (.int .i64 j)).setCell ⟨w.heap.size, 2, none⟩ (.int .i64 0)).setCell ⟨w.heap.size, 3, none⟩ (.int .i64 0)).cell? ⟨w.heap.size, 1, none⟩ = some (.int .i64 j) := hbf.cell 1
  have e2 : ((((w2.setCell ⟨w.heap.size, 0, none⟩ (.int .i64 5)).setCell ⟨w.heap.size, 1, none⟩ (.int .i64 j)).setCell ⟨w.heap.size, 2, none⟩ (.int .i64 0)).setCell ⟨w.heap.size, 3, none⟩ (.int .i64 0)).cell? ⟨w.heap.size, 2, none⟩ = some (.int .i64 0) := hbf.cell 2
  have e3 : ((((w2.setCell ⟨w.heap.size, 0, none⟩ (.int .i64 5)).setCell ⟨w.heap.size, 1, none⟩ (.int .i64 j)).setCell ⟨w.heap.size, 2, none⟩ (.int .i64 0)).setCell ⟨w.heap.size, 3, none⟩ (.int .i64 0)).cell? ⟨w.heap.size, 3, none⟩ = some (.int .i64 0) := hbf.cell 3
  have KF := (((((Kept.refl [w.heap.size] w2).set_ (b := w.heap.size) (.inl (by simp)) 0 (.int .i64 5)).set_ (b := w.heap.size) (.inl (by simp)) 1 (.int .i64 j)).set_ (b := w.heap.size) (.inl (by simp)) 2 (.int .i64 0)).set_ (b := w.heap.size) (.inl (by simp)) 3 (.int .i64 0))
  obtain ⟨wF, hwF⟩ : ∃ wF, ((((w2.setCell ⟨w.heap.size, 0, none⟩ (.int .i64 5)).setCell ⟨w.heap.size, 1, none⟩ (.int .i64 j)).setCell ⟨w.heap.size, 2, none⟩ (.int .i64 0)).setCell ⟨w.heap.size, 3, none⟩ (.int .i64 0)) = wF := ⟨_, rfl⟩
  rw [hwF] at e0 e1 e2 e3 KF
  have HE := hide (And.intro e0 (And.intro e1 (And.intro e2 e3)))
  have HW := hide hwF
  have HR := hide (And.intro KF (And.intro harr (And.intro hkw hgz)))
  clear e0 e1 e2 e3 KF hwF harr hkw hgz hk hg hbf hb
  go_wp2
  try rw [HW.out]
  obtain ⟨e0, e1, e2, e3⟩ := HE.out
  refine bodyPost_ret (v := .tuple #[It.val (kd5 i), .slice (some ⟨g, 0, none⟩) 64 64]) (by simp [results, Tryz.results55, go_sem, It.val, kd5, HJ.out, e0, e1, e2, e3]) rfl ⟨kd5 i, some ⟨g, 0, none⟩, 64, 64, fillOf i, rfl, ?_⟩
  obtain ⟨KF, harr, hkw, hgz⟩ := HR.out
  exact ⟨HOK.out.2.2.1.1, fillOf_length _, fun _ => ⟨rfl, rfl⟩, fun h => absurd (h.symm.trans HOK.out.2.2.1.2) (by simp), fun S hS => ((harr.vals (S := w.heap.size :: S) (by simp only [List.mem_cons, not_or]; exact ⟨by omega, fun hm => by have := hS g hm; omega⟩)).kept KF (by simp)).mono (S' := S) (fun j hj => by simp [hj]), hkw.trans KF (fun j hj => .inr (by simp at hj; omega))⟩
 have t2 : (y == 2) = false := beq_eq_false_iff_ne.2 h2
 go_enter Tryz.func55, Tryz.ntmps55
 go_wp2_with fail
 refine (round_any x 4 _ (by omega) (by omega)).mono ?_
 rintro e w' ⟨rfl, rfl⟩
 rw [hy]
 go_wp2_with fail
 refine (fill_any (i : Int) _).mono ?_
 rintro e w2 ⟨g, rfl, hg, harr, hk⟩
 have hb := hk.blk (HZC.out #[.int .i64 0, .int .i64 0, .int .i64 0, .int .i64 0]) (by simp)
 have hgz : w.heap.size < g := by have := HZZ.out #[.int .i64 0, .int .i64 0, .int .i64 0, .int .i64 0]; omega
 have hkw := (HKA.out #[.int .i64 0, .int .i64 0, .int .i64 0, .int .i64 0]).trans hk (by simp)
 have c0 := hb.cell 0
 have c1 := hb.cell 1
 have c2 := hb.cell 2
 have c3 := hb.cell 3
 have f0 := hb.frozen 0
 have f1 := hb.frozen 1
 have f2 := hb.frozen 2
 have f3 := hb.frozen 3
 have hlt := hb.lt
 have hbf := ((((hb.set_ 0 (.int .i64 1)).set_ 1 (.int .i64 j)).set_ 2 (.int .i64 0)).set_ 3 (.int .i64 0))
 have e0 : ((((w2.setCell ⟨w.heap.size, 0, none⟩ (.int .i64 1)).setCell ⟨w.heap.size, 1, none⟩ (.int .i64 j)).setCell ⟨w.heap.size, 2, none⟩ (.int .i64 0)).setCell ⟨w.heap.size, 3, none⟩ (.int .i64 0)).cell? ⟨w.heap.size, 0, none⟩ = some (.int .i64 1) := hbf.cell 0
 have e1 : ((((w2.setCell ⟨w.heap.size, 0, none⟩ (.int .i64 1)).setCell ⟨w.heap.size, 1, none⟩ (.int .i64 j)).setCell ⟨w.heap.size, 2, none⟩ (.int .i64 0)).setCell ⟨w.heap.size, 3, none⟩ (.int .i64 0)).cell? ⟨w.heap.size, 1, none⟩ = some (.int .i64 j) := hbf.cell 1
 have e2 : ((((w2.setCell ⟨w.heap.size, 0, none⟩ (.int .i64 1)).setCell ⟨w.heap.size, 1, none⟩ (.int .i64 j)).setCell ⟨w.heap.size, 2, none⟩ (.int .i64 0)).setCell ⟨w.heap.size, 3, none⟩ (.int .i64 0)).cell? ⟨w.heap.size, 2, none⟩ = some (.int .i64 0) := hbf.cell 2
 have e3 : ((((w2.setCell ⟨w.heap.size, 0, none⟩ (.int .i64 1)).setCell ⟨w.heap.size, 1, none⟩ (.int .i64 j)).setCell ⟨w.heap.size, 2, none⟩ (.int .i64 0)).setCell ⟨w.heap.size, 3, none⟩ (.int .i64 0)).cell? ⟨w.heap.size, 3, none⟩ = some (.int .i64 0) := hbf.cell 3
 have KF := (((((Kept.refl [w.heap.size] w2).set_ (b := w.heap.size) (.inl (by simp)) 0 (.int .i64 1)).set_ (b := w.heap.size) (.inl (by simp)) 1 (.int .i64 j)).set_ (b := w.heap.size) (.inl (by simp)) 2 (.int .i64 0)).set_ (b := w.heap.size) (.inl (by simp)) 3 (.int .i64 0))
 obtain ⟨wF, hwF⟩ : ∃ wF, ((((w2.setCell ⟨w.heap.size, 0, none⟩ (.int .i64 1)).setCell ⟨w.heap.size, 1, none⟩ (.int .i64 j)).setCell ⟨w.heap.size, 2, none⟩ (.int .i64 0)).setCell ⟨w.heap.size, 3, none⟩ (.int .i64 0)) = wF := ⟨_, rfl⟩
 rw [hwF] at e0 e1 e2 e3 KF
 have HE := hide (And.intro e0 (And.intro e1 (And.intro e2 e3)))
 have HW := hide hwF
 have HR := hide (And.intro KF (And.intro harr (And.intro hkw hgz)))
 clear e0 e1 e2 e3 KF hwF harr hkw hgz hk hg hbf hb
 go_wp2
 try rw [HW.out]
 obtain ⟨e0, e1, e2, e3⟩ := HE.out
 refine bodyPost_ret (v := .tuple #[It.val (kd1 i), .slice (some ⟨g, 0, none⟩) 64 64]) (by simp [results, Tryz.results55, go_sem, It.val, kd1, HJ.out, e0, e1, e2, e3]) rfl ⟨kd1 i, some ⟨g, 0, none⟩, 64, 64, fillOf i, rfl, ?_⟩
 obtain ⟨KF, harr, hkw, hgz⟩ := HR.out
 exact ⟨HOK.out.2.2.2.1, fillOf_length _, fun _ => ⟨rfl, rfl⟩, fun h => absurd (h.symm.trans HOK.out.2.2.2.2) (by simp), fun S hS => ((harr.vals (S := w.heap.size :: S) (by simp only [List.mem_cons, not_or]; exact ⟨by omega, fun hm => by have := hS g hm; omega⟩)).kept KF (by simp)).mono (S' := S) (fun j hj => by simp [hj]), hkw.trans KF (fun j hj => .inr (by simp at hj; omega))⟩
section
variable {w W W' : World} {zp v d g tp V rd rt : Nat} {xp : Option Addr} {b s l r q : Int} {D : Dk} {T : List Rw} {p : Ps} {its : List It} {bl : List UInt8} {F : List Nat} {A : Option Addr} {c : Nat} {H : Option Addr} {e : Nat}
def allOf (zp g tp v V : Nat) (F : List Nat) (A : Option Addr) (n c : Nat) (H : Option Addr) (m e : Nat) : List Nat := zp :: g :: tp :: ours v V F A n c H m e
theorem Lwr.far {S : List Nat} (h : Lwr w W zp v d g tp V rd rt xp b s l r q D T p its bl F A c H e) (k : Kept S W W') (hs : ∀ i ∈ S, i ∉ allOf zp g tp v V F A its.length c H bl.length e) (hn : ∀ i ∈ S, w.heap.size ≤ i) : Lwr w W' zp v d g tp V rd rt xp b s l r q D T p its bl F A c H e := by
 unfold allOf ours at hs
 simp only [List.mem_cons, List.mem_append, not_or] at hs
 have a1 : v ∉ S := fun hm => (hs v hm).2.2.2.1 rfl
 have a2 : g ∉ S := fun hm => (hs g hm).2.1 rfl
 have a3 : tp ∉ S := fun hm => (hs tp hm).2.2.1 rfl
 have a4 : V ∉ S := fun hm => (hs V hm).2.2.2.2.1 rfl
 have a5 : zp ∉ S := fun hm => (hs zp hm).1 rfl
 exact ⟨⟨h.ws.at_.kept k a1, h.ws.geo.kept k a2, h.ws.vd.kept k (fun x hx hm => (hs x hm).2.2.2.2.2.1.1 hx), h.ws.tab.kept k a3 a4, own_keep h.ws.own k (fun i hi hm => (hs i hi).2.2.2.2.2.1.2 hm), own_keep h.ws.byt k (fun i hi hm => (hs i hi).2.2.2.2.2.2 hm), h.ws.sep, h.ws.gV, h.ws.sepA, h.ws.sepB, h.ws.pl⟩, k.blk h.blk a5, h.zn, h.new, h.kept.trans k (fun j hj => .inr (hn j hj))⟩
theorem Lwr.alllt (h : Lwr w W zp v d g tp V rd rt xp b s l r q D T p its bl F A c H e) : ∀ x ∈ allOf zp g tp v V F A its.length c H bl.length e, x < W.heap.size := fun x hx => by
 unfold allOf at hx
 simp only [List.mem_cons] at hx
 rcases hx with rfl | rfl | rfl | hx
 ·exact h.blk.lt
 ·exact h.ws.geo.lt
 ·exact h.ws.tab.pl
 ·exact h.lt x hx
theorem allOf_sub {v V : Nat} {F F' : List Nat} {A A' : Option Addr} {n n' c c' : Nat} {H H' : Option Addr} {m m' e e' : Nat} (h : Subs W (ours v V F A n c H m e) (ours v V F' A' n' c' H' m' e')) : Subs W (allOf zp g tp v V F A n c H m e) (allOf zp g tp v V F' A' n' c' H' m' e') := fun x hx => by
 unfold allOf at hx ⊢
 simp only [List.mem_cons] at hx ⊢
 rcases hx with rfl | rfl | rfl | hx
 ·exact .inl (.inl rfl)
 ·exact .inl (.inr (.inl rfl))
 ·exact .inl (.inr (.inr (.inl rfl)))
 ·exact (h x hx).imp (fun g => .inr (.inr (.inr g))) id
structure Rws (W : World) (base : Nat) (O : List Nat) (va vn : Value) (na nn : Nat) (La Ln : List Int) : Prop where
 a : W.ownsRow base 3 1 va na (La.map I)
 n : W.ownsRow base 3 1 vn nn (Ln.map I)
 ap : ∀ i ∈ va.ownBlock.toList, i ∉ vn.ownBlock.toList
 oa : ∀ i ∈ va.ownBlock.toList, i ∉ O
 on : ∀ i ∈ vn.ownBlock.toList, i ∉ O
variable {base na nn : Nat} {O O' : List Nat} {va vn : Value} {La Ln : List Int}
theorem Rws.nil (W : World) (base : Nat) (O : List Nat) : Rws W base O (.slice none 0 0) (.slice none 0 0) 0 0 [] [] := ⟨World.ownsRow_nil _ _ _ _, World.ownsRow_nil _ _ _ _, by simp [Value.ownBlock], by simp [Value.ownBlock], by simp [Value.ownBlock]⟩
theorem Rws.turn {S : List Nat} (h : Rws W base O va vn na nn La Ln) (k : Kept S W W') (hS : ∀ x ∈ S, x ∈ O) (hO : ∀ x ∈ O', x ∈ O ∨ W.heap.size ≤ x) : Rws W' base O' va vn na nn La Ln :=
 ⟨own_keep h.a k (fun i hi hm => h.oa i hm (hS i hi)), own_keep h.n k (fun i hi hm => h.on i hm (hS i hi)), h.ap,
  fun i hi hm => (hO i hm).elim (h.oa i hi) (fun hh => by have := (own_blk h.a i hi).2.1; omega),
  fun i hi hm => (hO i hm).elim (h.on i hi) (fun hh => by have := (own_blk h.n i hi).2.1; omega)⟩
theorem Rws.keep (h : Rws W base O va vn na nn La Ln) (k : Kept [] W W') : Rws W' base O va vn na nn La Ln := h.turn k (by simp) (fun x hx => .inl hx)
theorem Rws.pushA {va' : Value} {x : Int} (h : Rws W base O va vn na nn La Ln) (hO : ∀ y ∈ O, y < W.heap.size) (ho : W'.ownsRow base 3 1 va' (na + 1) (La.map I ++ [x].map I)) (k : Kept va.ownBlock.toList W W') (hb : va'.ownBlock = va.ownBlock ∨ va'.ownBlock = some W.heap.size) : Rws W' base O va' vn (na + 1) nn (La ++ [x]) Ln := by
 have key : ∀ i ∈ va'.ownBlock.toList, i ∈ va.ownBlock.toList ∨ i = W.heap.size := fun i hi => hb.elim (fun e => .inl (by rw [← e]; exact hi)) (fun e => .inr (by rw [e] at hi; simpa using hi))
 refine ⟨by rw [List.map_append]; exact ho, own_keep h.n k h.ap, fun i hi hm => ?_, fun i hi hm => ?_, h.on⟩
 ·rcases key i hi with h1 | h1
  ·exact h.ap i h1 hm
  ·have := (own_blk h.n i hm).2.1; omega
 ·rcases key i hi with h1 | h1
  ·exact h.oa i h1 hm
  ·have := hO i hm; omega
theorem Rws.pushN {vn' : Value} {x : Int} (h : Rws W base O va vn na nn La Ln) (hO : ∀ y ∈ O, y < W.heap.size) (ho : W'.ownsRow base 3 1 vn' (nn + 1) (Ln.map I ++ [x].map I)) (k : Kept vn.ownBlock.toList W W') (hb : vn'.ownBlock = vn.ownBlock ∨ vn'.ownBlock = some W.heap.size) : Rws W' base O va vn' na (nn + 1) La (Ln ++ [x]) := by
 have key : ∀ i ∈ vn'.ownBlock.toList, i ∈ vn.ownBlock.toList ∨ i = W.heap.size := fun i hi => hb.elim (fun e => .inl (by rw [← e]; exact hi)) (fun e => .inr (by rw [e] at hi; simpa using hi))
 refine ⟨own_keep h.a k (fun i hi hm => h.ap i hm hi), by rw [List.map_append]; exact ho, fun i hi hm => ?_, h.oa, fun i hi hm => ?_⟩
 ·rcases key i hm with h1 | h1
  ·exact h.ap i hi h1
  ·have := (own_blk h.a i hi).2.1; omega
 ·rcases key i hi with h1 | h1
  ·exact h.on i h1 hm
  ·have := hO i hm; omega
end
section
variable {w W : World} {zp v d g tp V rd rt : Nat} {xp : Option Addr} {r q : Int} {D : Dk} {T : List Rw} {p : Ps} {its : List It} {bl : List UInt8} {F : List Nat} {A : Option Addr} {c : Nat} {H : Option Addr} {e : Nat}
theorem Lwr.readk {t : Nat} {L : List (Int × Int)} (h : Lwr w W zp v d g tp V rd rt xp 8 8 24 r q D T p its bl F A c H e) (hl : Plc r q t D p its bl L) (hs : p.s = ord t) (ht : t ≤ 7) (x : Int × Int) (hx : x ∈ L) :
  Calls Tryz.prog 46 #[.pointer (some ⟨v, 0, none⟩), .int .i64 x.1] W fun ex W' => (∃ A' c', ex = .returned (.tuple #[.slice A' 64 c', .int .i64 0]) ∧ Fresh W W' A' 64 c' (fillOf x.2)) ∧ Kept [] W W' := by
 obtain ⟨sg, o, h1, h2, h3, h4, h5, h6⟩ := hl x hx
 have hp := h.ws.pl
 have hbd := h.ws.geo.bounds
 have hof := offOf_le hp.off.1
 have hob := ord_bd t (by omega)
 have hfit := hp.fits
 have hn4 := hp.reads.ok.n2
 have hrm : record.count its = 0 ∨ offOf p + 1 + (record.count its : Int) ≤ 23 := by
  by_cases hne : its = []
  ·exact .inl (by rw [hne]; rfl)
  ·exact .inr (hp.room hne)
 by_cases hw : ∃ j : Nat, (sg : Int) = p.s ∧ (o : Int) = offOf p + 1 + j ∧ j < record.count its
 ·obtain ⟨j, g1, g2, g3⟩ := hw
  have hsec : disk.sec bl j = fillOf x.2 := by
   rcases h6 with ⟨_, j', k2, _, k4⟩ | ⟨k1, _⟩
   ·obtain rfl : j = j' := by omega
    exact k4
   ·have := k1 g1; omega
  have := read_held w.heap.size v d g tp V F 8 8 24 r q D T p its bl A c H e W j h.ws g3
  rw [show fstAt r q 24 p + j = x.1 by unfold fstAt; omega] at this
  unfold disk.sec at hsec
  rw [hsec] at this
  exact this
 ·have hdk : disk.sec D.now x.1.toNat = fillOf x.2 := by
   rcases h6 with ⟨k1, j', k2, k3, _⟩ | ⟨_, k2⟩
   ·exact absurd ⟨j', k1, k2, k3⟩ hw
   ·exact k2
  have hno : ¬ (fstAt r q 24 p ≤ x.1 ∧ x.1 < fstAt r q 24 p + record.count its) := fun hh => by
   unfold fstAt at hh
   rcases hrm with h0 | h0
   ·omega
   ·exact hw ⟨(o - (offOf p + 1)).toNat, by omega, by omega, by omega⟩
  have hN : x.1.toNat < D.n := by omega
  have hr := hp.reads.read x.1.toNat hN
  rw [hdk, show ((x.1.toNat : Nat) : Int) = x.1 by omega] at hr
  refine (read_disk w.heap.size v d g tp V F 8 8 24 r q D T p its bl A c H e W x.1 ⟨by omega, by omega⟩ h.ws hno).mono ?_
  rintro ex W' ⟨ha, hk⟩
  rw [hr] at ha
  obtain ⟨A', c', he, hf⟩ := ha
  rw [fillOf_length] at he hf
  exact ⟨⟨A', c', he, hf⟩, hk⟩
end
def qPs : Ps := ⟨1, 0, 1, 0, 1⟩
theorem pq_start : sts (busyT 8 qPs []) = lst 0 := by decide
theorem rowAt_sts (T : List Rw) (i : Nat) : (us.rowAt T (i : Int)).s = ((sts T)[i]?).getD 0 := by
 unfold us.rowAt sts
 rw [if_pos (by omega), Int.toNat_natCast, List.getElem?_map]
 cases T[i]? <;> rfl
theorem places_any (Ak : Option Addr) (n ck : Nat) (ks : List Int) (w : World) (hv : Vals w [] Ak (ks.map I)) (hl : ks.length = n) : Calls Tryz.prog 7 #[.slice Ak n ck] w fun e w' => e = .returned (.bool true) ∧ Kept [] w w' := by
 by_cases hn : (n : Int) > 80
 ·have hd : decide ((n : Int) > 80) = true := decide_eq_true hn
  clear hv
  go_enter Tryz.func7, Tryz.ntmps7
  go_wp2_with fail
  refine (awake_any _).mono ?_
  rintro e w1 ⟨rfl, hk⟩
  have HK := hide hk
  clear hk
  go_wp2
  go_ret
  exact ⟨rfl, HK.out⟩
 have hd : decide ((n : Int) > 80) = false := decide_eq_false hn
 have hn80 : n ≤ 80 := by omega
 have HV := hide hv
 have HKL := hide hl
 clear hv hl hn
 go_enter Tryz.func7, Tryz.ntmps7
 go_wp2_with fail
 refine (small_any _).mono ?_
 rintro e w0 ⟨rfl, hk0⟩
 have HK0 := hide hk0
 clear hk0
 go_wp2_with fail
 refine (made_any 8 8 24 qPs none 0 0 [] _ (by unfold geom.Ok; omega) (Vals.nil _ _ _) rfl (by omega)).mono ?_
 rintro e w1 ⟨m, m2, z, zp, d, rd, g, tp, V, rt, U, L, F, G, n0, r, q, vp, xp0, rfl, hm, hn, hk1, hv⟩
 obtain ⟨hp, v, xx, rfl, rfl, hzv, hvx, hat, hrat⟩ := hv.resolve_right (fun hh => hh.1 (by decide))
 have hlw0 := Lwr.of_made hm hn hk1 hp (by decide) hzv hat
 obtain ⟨xp, hxp⟩ : ∃ xp : Option Addr, some ⟨xx, 0, none⟩ = xp := ⟨_, rfl⟩
 rw [hxp] at hlw0
 have HGB := hide (show 2 ≤ r ∧ r ≤ 4 ∧ 1 ≤ q ∧ q ≤ 5 from hm.geo.bounds)
 obtain ⟨D0, hD0⟩ : ∃ D0, Dk.new n0 = D0 := ⟨_, rfl⟩
 obtain ⟨T0, hT0⟩ : ∃ T0, busyT 8 qPs [] = T0 := ⟨_, rfl⟩
 rw [hD0, hT0] at hlw0
 have HPQ0 := hide (show Pq 0 0 (3 * 0) D0 T0 qPs [] from ⟨by omega, rfl, by decide, by decide, by rw [← hD0]; exact Nat.le_refl _, by decide, by rw [← hT0]; exact pq_start⟩)
 have HL0 := hide hlw0
 have HPL0 := hide (show Plc r q 0 D0 qPs [] [] [] from fun x hx => by simp at hx)
 have HKW := hide (HK0.out.trans hk1 (by simp))
 have HOL0 := hide (show Rws w1 w0.heap.size (allOf zp g tp v V F none 0 0 none 0 0) (.slice none 0 0) (.slice none 0 0) 0 0 [] [] from Rws.nil _ _ _)
 clear hv hp hat hrat hn hxp hlw0 hm hk1 hD0 hT0 hzv hvx
 obtain ⟨pt0, pt2, pt6, pt8⟩ := HL0.out.ptr
 go_wp2
 clear pt0 pt2 pt6 pt8
 go_loopw [5, 6, 7, 8, 9, 10, 11, 12, 13, 14, 15, 16] (fun a5 a6 i _ _ _ _ _ _ _ _ _ wr => ∃ (m t : Nat) (Q : List (Int × Int)) (A5 : Option Addr) (c5 : Nat) (A6 : Option Addr) (c6 : Nat), m ≤ n ∧ i = .int .i64 m ∧ a5 = .slice A5 Q.length c5 ∧ a6 = .slice A6 Q.length c6 ∧ Q.length ≤ m ∧ ∃ D T p its bl F A c H e, Hid (Lwr w0 wr zp v d g tp V rd rt xp 8 8 24 r q D T p its bl F A c H e) ∧ Hid (Pq m t (3 * m) D T p its) ∧ Hid (Plc r q t D p its bl Q) ∧ Hid (Rws wr w0.heap.size (allOf zp g tp v V F A its.length c H bl.length e) (.slice A5 Q.length c5) (.slice A6 Q.length c6) Q.length Q.length (Q.map Prod.fst) (Q.map Prod.snd))) (fun _ _ i _ _ _ _ _ _ _ _ _ _ => n - (intOf i).toNat)
 case atStart => exact ⟨0, 0, [], none, 0, none, 0, Nat.zero_le _, rfl, rfl, rfl, Nat.le_refl _, D0, T0, qPs, [], [], F, none, 0, none, 0, HL0, HPQ0, HPL0, HOL0⟩
 case round =>
  clear HL0 HPQ0 HPL0 HOL0
  obtain ⟨m, t, Q, A5, c5, A6, c6, hm, rfl, rfl, rfl, hQm, D, T, p, its, bl, F, A, c, H, e, HLK, HPQ, HPL, HRW⟩ := hrel
  by_cases hlt : m < n
  ·obtain ⟨x, hx⟩ : ∃ x, ks[m]? = some x := ⟨_, List.getElem?_eq_getElem (by rw [HKL.out]; exact hlt)⟩
   obtain ⟨ad, rfl, _, g0⟩ := (HV.out.kept (HK0.out.trans HLK.out.kept (by simp)) (by simp)) m (I x) (by rw [List.getElem?_map, hx]; rfl)
   unfold I at g0
   have hmw : IntKind.i64.wrap ((m : Int) + 1) = (m : Int) + 1 := IntWalk.i64_in _ (by omega)
   have HQM := hide hQm
   clear hx hQm
   go_wp2_with fail
   refine (kinds_any x m _ (by omega)).mono ?_
   rintro e' w2 ⟨it, Bp, nb, cb, bb, rfl, hkd⟩
   have HKD := hide hkd
   obtain ⟨w3, hw3⟩ : ∃ w3, w2.alloc (.cells #[.int .i64 it.k, .int .i64 it.b, .int .i64 it.c, .int .i64 it.v] 84) = w3 := ⟨_, rfl⟩
   have HBI := hide (show Blk w3 w2.heap.size 84 #[.int .i64 it.k, .int .i64 it.b, .int .i64 it.c, .int .i64 it.v] from by rw [← hw3]; exact Blk.new w2 _ _)
   have k3 : Kept [] w2 w3 := by rw [← hw3]; exact (Kept.refl [] w2).alloc _
   obtain ⟨wd, hwd⟩ : ∃ wd, w3.drew = wd := ⟨_, rfl⟩
   have k4 : Kept [] w2 wd := by rw [← hwd]; exact k3.trans ((Kept.refl [] w3).drew) (by simp)
   have HKD4 := hide (hkd.kept.trans k4 (by simp))
   have HLd := hide (HLK.out.keep HKD4.out)
   have HRd := hide (HRW.out.keep HKD4.out)
   have HBd := hide (show Blk wd w2.heap.size 84 #[.int .i64 it.k, .int .i64 it.b, .int .i64 it.c, .int .i64 it.v] from by rw [← hwd]; exact ((Kept.refl [] w3).drew).blk HBI.out (by simp))
   have HVB := hide (show Vals wd (allOf zp g tp v V F A its.length c H bl.length e ++ (Value.slice A5 Q.length c5).ownBlock.toList ++ (Value.slice A6 Q.length c6).ownBlock.toList) Bp (bb.map B) from (hkd.vals _ (fun y hy => by
    simp only [List.mem_append] at hy
    rcases hy with (hy | hy) | hy
    ·exact HLK.out.alllt y hy
    ·exact (own_blk HRW.out.a y hy).2.1
    ·exact (own_blk HRW.out.n y hy).2.1)).kept k4 (by simp))
   have HIZ := hide (show w2.heap.size ∉ allOf zp g tp v V F A its.length c H bl.length e from fun hm => by have h1 := HLK.out.alllt _ hm; have h2 := hkd.kept.size; omega)
   have HADD := hide (HLd.out.places it Bp nb cb bb (m : Int) HPQ.out HPL.out (by omega) (by omega) hkd.add hkd.len (HVB.out.mono (fun y hy => by unfold allOf; simp [hy])))
   have HCd := hide (show True ∧ (wd.cell? ⟨zp, 0, none⟩ = some (.pointer (some ⟨d, 0, none⟩)) ∧ wd.cell? ⟨zp, 2, none⟩ = some (.pointer (some ⟨g, 0, none⟩)) ∧ wd.cell? ⟨zp, 6, none⟩ = some (.pointer (some ⟨tp, 0, none⟩)) ∧ wd.cell? ⟨zp, 8, none⟩ = some (.pointer (some ⟨v, 0, none⟩))) ∧ (wd.cell? ⟨w2.heap.size, 0, none⟩ = some (.int .i64 it.k) ∧ wd.cell? ⟨w2.heap.size, 1, none⟩ = some (.int .i64 it.b) ∧ wd.cell? ⟨w2.heap.size, 2, none⟩ = some (.int .i64 it.c) ∧ wd.cell? ⟨w2.heap.size, 3, none⟩ = some (.int .i64 it.v)) from ⟨trivial, HLd.out.ptr, HBd.out.cell 0, HBd.out.cell 1, HBd.out.cell 2, HBd.out.cell 3⟩)
   unfold It.val at HADD ⊢
   clear hkd k3 k4 HLK HRW HPQ HPL
   go_wp2
   refine wp_region_noPanic ?_
   refine wp_region_held_drew (S := fun W => True ∧ (W.cell? ⟨zp, 0, none⟩ = some (.pointer (some ⟨d, 0, none⟩)) ∧ W.cell? ⟨zp, 2, none⟩ = some (.pointer (some ⟨g, 0, none⟩)) ∧ W.cell? ⟨zp, 6, none⟩ = some (.pointer (some ⟨tp, 0, none⟩)) ∧ W.cell? ⟨zp, 8, none⟩ = some (.pointer (some ⟨v, 0, none⟩))) ∧ (W.cell? ⟨w2.heap.size, 0, none⟩ = some (.int .i64 it.k) ∧ W.cell? ⟨w2.heap.size, 1, none⟩ = some (.int .i64 it.b) ∧ W.cell? ⟨w2.heap.size, 2, none⟩ = some (.int .i64 it.c) ∧ W.cell? ⟨w2.heap.size, 3, none⟩ = some (.int .i64 it.v))) (by kernel_rfl) (by (try rw [hw3]); (try rw [hwd]); exact HCd.out) (fun hHeld => ?_)
   refine tK 0 57 rfl ?_
   try simp only [Act.put, pA, pB, pC]
   refine tK 1 58 rfl ?_
   try simp only [Act.put, pA, pB, pC]
   refine tK 2 59 rfl ?_
   try simp only [Act.put, pA, pB, pC]
   refine tK 3 60 rfl ?_
   try simp only [Act.put, pA, pB, pC]
   refine tK 4 61 rfl ?_
   try simp only [Act.put, pA, pB, pC]
   refine tK 5 62 rfl ?_
   try simp only [Act.put, pA, pB, pC]
   refine hO 6 (some 63) rfl fun K hK => ?_
   (try rw [hw3])
   (try rw [hwd])
   go_simp
   refine HADD.out.mono ?_
   rintro e' w4 ⟨k, t', D', T', p', its', bl', F', A', c', H', e1, rfl, hpa, hk4, hsub⟩
   have HOO := hide (allOf_sub (zp := zp) (g := g) (tp := tp) hsub)
   have HPA := hide hpa
   have HK4 := hide hk4
   have HBe := hide (hk4.blk HBd.out (fun hm => HIZ.out (by unfold allOf; simp [hm])))
   clear hpa hk4 hsub
   refine hK.out _ _ (by exact ⟨trivial, HPA.out.lw.ptr, HBe.out.cell 0, HBe.out.cell 1, HBe.out.cell 2, HBe.out.cell 3⟩) (fun hHeld => ?_)
   clear hK K
   try simp only [Act.put, pA, pB, pC]
   refine tK 7 56 rfl ?_
   try simp only [Act.put, pA, pB, pC]
   refine tK 8 64 rfl ?_
   try simp only [Act.put, pA, pB, pC]
   refine tK 9 65 rfl ?_
   try simp only [Act.put, pA, pB, pC]
   refine tK 10 10 rfl ?_
   try simp only [Act.put, pA, pB, pC]
   refine tK 11 11 rfl ?_
   try simp only [Act.put, pA, pB, pC]
   refine wpAnyH_done (by kernel_rfl) ?_ _
   refine NoPanic.normal ?_
   have HRe := hide (HRd.out.turn HK4.out (fun y hy => by unfold allOf; simp [hy]) HOO.out)
   have HVe := hide (HVB.out.kept HK4.out (fun y hy => by unfold allOf; simp [hy]))
   clear HBd HBI HADD HCd HLd HRd HVB hw3 hwd hHeld HIZ HBe
   by_cases hld : it.loaded = true
   ·obtain ⟨hnb, hbb⟩ := HKD.out.yes hld
    subst hnb hbb
    obtain ⟨hpl, hap⟩ := HPA.out.yes hld rfl
    obtain ⟨sg, o, h1, h2, h3, h4, h5, _⟩ := hpl (k, (m : Int)) (by simp)
    have h1' : k = 2 + 2 * r + 4 * q + sg * 24 + o := h1
    have hk0 : (k != 0) = true := by rw [bne_iff_ne]; have := HGB.out; omega
    have hk1 : (k == 0) = false := by rw [beq_eq_false_iff_ne]; have := HGB.out; omega
    have HPL2 := hide hpl
    have HWH := hide (fun W (hg : GAt W g 8 8 24 r q) => where_inw g 8 8 24 r q sg o W hg ⟨by omega, by omega⟩ ⟨by omega, by omega⟩)
    rw [← h1'] at HWH
    have HAM := hide (show ∀ y ∈ Q.map Prod.fst, y ≠ k from fun y hy => by obtain ⟨u, hu, rfl⟩ := List.mem_map.1 hy; exact hap u hu)
    have HST := hide (show (us.rowAt T' (sg : Int)).s ≠ 0 from by
     rw [rowAt_sts, HPA.out.pq.sts]
     rw [List.getD_eq_getElem?_getD] at h5
     exact h5)
    have HKB := hide (show 0 ≤ k ∧ k ≤ 2500 from by have := HGB.out; omega)
    have q1 : decide ((o : Int) < 2) = false := decide_eq_false (by omega)
    have q2 : decide ((o : Int) > 22) = false := decide_eq_false (by omega)
    clear hpl hap h1 h1' h5
    obtain ⟨pt0, pt2, pt6, pt8⟩ := HPA.out.lw.ptr
    go_wp2_with fail
    refine (HWH.out _ HPA.out.lw.ws.geo).mono ?_
    rintro e' w5 ⟨rfl, hk5⟩
    have HL5 := hide (HPA.out.lw.keep hk5)
    have HR5 := hide (HRe.out.keep hk5)
    have HV5 := hide (HVe.out.kept hk5 (by simp))
    clear hk5 pt0 pt2 pt6 pt8 HRe HVe
    obtain ⟨pt0, pt2, pt6, pt8⟩ := HL5.out.ptr
    have HVA := hide (show Vals w5 [] A5 ((Q.map Prod.fst).map I) from by
     obtain ⟨A0, c0, e0, _, hh⟩ := own_read HR5.out.a
     cases e0
     exact hh [] (by simp))
    go_wp2_with fail
    refine (among_any A5 Q.length c5 (Q.map Prod.fst) k _ HVA.out (by simp) (by have := HQM.out; omega) HAM.out).mono ?_
    rintro e' w' ⟨rfl, rfl⟩
    go_wp2_with fail
    refine (us.state_any HL5.out.ws.tab (sg : Int)).mono ?_
    rintro e' w6 ⟨rfl, hk6⟩
    have HL6 := hide (HL5.out.keep hk6)
    have HR6 := hide (HR5.out.keep hk6)
    have HV6 := hide (HV5.out.kept hk6 (by simp))
    obtain ⟨st, hst⟩ : ∃ st, (us.rowAt T' (sg : Int)).s = st := ⟨_, rfl⟩
    have q3 : (st == 0) = false := by rw [← hst]; exact beq_eq_false_iff_ne.2 HST.out
    rw [hst]
    clear hst hk6 pt0 pt2 pt6 pt8 HL5 HR5 HV5 HVA HST HAM HWH
    have HOA := hide (fun o : Obj => HR6.out.a.alloc o)
    have HON := hide (fun o : Obj => HR6.out.n.alloc o)
    have HAPN := hide HR6.out.ap
    have HBS := hide (show w0.heap.size ≤ w6.heap.size from HL6.out.kept.size)
    have hQ80 : Q.length ≤ 80 := by have := HQM.out; omega
    go_wp2_with (at_builtin; first
     | (refine wpList_append_vals rfl (.tmp 112) (.tmp 114) 72 rfl w0.heap.size 3 (.int .i64 0) 1 8 Tryz.underlying72 base.int_info rfl (by omega) (.slice A5 Q.length c5) Q.length ((Q.map Prod.fst).map I) rfl (HOA.out _) [] _ 1 1 ([k].map I) rfl (by simp) (base.vals_one _ [] _ _ (by simp)) (oneCell_I _) (by simp only [maxLen]; omega) (by omega) (by have := HBS.out; simp; omega) ?_; intro v7 w7 hown7 hk7 hat7; have HN7 := hide (own_keep (HON.out _) hk7 HAPN.out); have HOB := hide (fun o : Obj => HN7.out.alloc o); have HS7 := hide (show w0.heap.size ≤ w7.heap.size from Nat.le_trans (by have := HBS.out; simp; omega) hk7.size))
     | (refine wpList_append_vals rfl (.tmp 116) (.tmp 118) 72 rfl w0.heap.size 3 (.int .i64 0) 1 8 Tryz.underlying72 base.int_info rfl (by omega) (.slice A6 Q.length c6) Q.length ((Q.map Prod.snd).map I) rfl (HOB.out _) [] _ 1 1 ([(m : Int)].map I) rfl (by simp) (base.vals_one _ [] _ _ (by simp)) (oneCell_I _) (by simp only [maxLen]; omega) (by omega) (by have := HS7.out; simp; omega) ?_; intro v8 w8 hown8 hk8 hat8; obtain ⟨A7, c7, rfl, _, _⟩ := own_read hown7; obtain ⟨A8, c8, rfl, _, _⟩ := own_read hown8; have ka := (Kept.refl [] w6).alloc (.cells #[.int .i64 k] 3); have kb := (Kept.refl [] w7).alloc (.cells #[.int .i64 (m : Int)] 3); have HRa := (HR6.out.keep ka).pushA (fun y hy => by have := HL6.out.alllt y hy; simp; omega) hown7 hk7 hat7; have HLa := (HL6.out.keep ka).far hk7 (HR6.out.oa) (fun i hi => (own_blk HR6.out.a i hi).1); have HRb := (HRa.keep kb).pushN (fun y hy => by have := HLa.alllt y hy; simp; omega) hown8 hk8 hat8; have HL8 := hide ((HLa.keep kb).far hk8 (HRa.on) (fun i hi => (own_blk HR6.out.n i hi).1)); have HR8 := hide HRb; have HV8 := hide ((((HV6.out.kept ka (by simp)).kept hk7 (fun i hi => by simp only [List.mem_append]; exact .inl (.inr hi))).kept kb (by simp)).kept hk8 (fun i hi => by simp only [List.mem_append]; exact .inr hi)); clear hown7 hown8 hk7 hk8 hat7 hat8 ka kb HRa HLa HRb HOA HON HAPN HBS HN7 HOB HS7 HL6 HR6 HV6; have hra := hide (show Calls Tryz.prog 46 #[.pointer (some ⟨v, 0, none⟩), .int .i64 k] w8 fun ex W' => (∃ A' c', ex = .returned (.tuple #[.slice A' 64 c', .int .i64 0]) ∧ Fresh w8 W' A' 64 c' (fillOf (m : Int))) ∧ Kept [] w8 W' from HL8.out.readk HPL2.out HPA.out.pq.seg HPA.out.pq.tt (k, (m : Int)) (by simp)); obtain ⟨pt0, pt2, pt6, pt8⟩ := HL8.out.ptr))
    refine hra.out.mono ?_
    rintro e' w9 ⟨⟨A9, c9, rfl, hfr⟩, hk9⟩
    have HFR := hide hfr.vals
    have HL9 := hide (HL8.out.keep hk9)
    have HR9 := hide (HR8.out.keep hk9)
    have HV9 := hide ((HV8.out.kept hk9 (by simp)).mono (S' := []) (by simp))
    clear hfr hk9 hra HL8 HR8 HV8 pt0 pt2 pt6 pt8
    go_wp2_with fail
    refine (base.bytes_any A9 Bp 64 64 c9 cb (fillOf (m : Int)) (fillOf (m : Int)) _ (fillOf_length _) (fillOf_length _) HFR.out HV9.out (by decide)).mono ?_
    rintro e' wx ⟨rfl, ⟨kx, rfl⟩⟩
    rw [show decide (fillOf (m : Int) = fillOf (m : Int)) = true from decide_eq_true rfl]
    have kz := (Kept.refl [] w9).drewN kx
    have HLz := hide (HL9.out.keep kz)
    have HRz := hide (show Rws (w9.drewN kx) w0.heap.size (allOf zp g tp v V F' A' its'.length c' H' bl'.length e1) (.slice A7 (Q ++ [(k, (m : Int))]).length c7) (.slice A8 (Q ++ [(k, (m : Int))]).length c8) (Q ++ [(k, (m : Int))]).length (Q ++ [(k, (m : Int))]).length ((Q ++ [(k, (m : Int))]).map Prod.fst) ((Q ++ [(k, (m : Int))]).map Prod.snd) from by simpa using HR9.out.keep kz)
    have HPQz := hide (HPA.out.pq.mono (show 3 * m + 3 ≤ 3 * (m + 1) by omega))
    clear kz
    go_wp2
    go_roundw
    case rel => exact ⟨m + 1, t', Q ++ [(k, (m : Int))], A7, c7, A8, c8, by omega, by go_num, by simp, by simp, by have := HQM.out; simp; omega, D', T', p', its', bl', F', A', c', H', e1, HLz, HPQz, HPL2, HRz⟩
    case measure => simp [intOf]; omega
   ·have hldf : it.loaded = false := by simpa using hld
    have hnb := HKD.out.no hldf
    subst hnb
    obtain ⟨hk0, hpl⟩ := HPA.out.no hldf
    subst hk0
    have HPL2 := hide hpl
    have HPQz := hide (HPA.out.pq.mono (show 3 * m + 3 ≤ 3 * (m + 1) by omega))
    have HLz := hide HPA.out.lw
    clear hpl hld hldf
    go_wp2
    go_roundw
    case rel => exact ⟨m + 1, t', Q, A5, c5, A6, c6, by omega, by go_num, rfl, rfl, by have := HQM.out; omega, D', T', p', its', bl', F', A', c', H', e1, HLz, HPQz, HPL2, HRe⟩
    case measure => simp [intOf]; omega
  ·obtain rfl : m = n := by omega
   have hac := HPQ.out.acts
   have hln := HPQ.out.lsn
   have HE := hide (HPQ.out.emit HLK.out.ws.pl ⟨by have := HGB.out; omega, by have := HGB.out; omega⟩ (by omega))
   have HPE := hide (HPL.out.emit HPQ.out HLK.out.ws.pl ⟨by have := HGB.out; omega, by have := HGB.out; omega⟩ (by omega))
   obtain ⟨pt0, pt2, pt6, pt8⟩ := HLK.out.ptr
   go_wp2_with fail
   refine (HLK.out.emit2 (by omega) (by omega)).mono ?_
   rintro e' w2 ⟨rfl, F', A', c', H', e1, hlw, hk2, hsub⟩
   obtain ⟨D', hD'⟩ : ∃ D', allD D (2 + 2 * r + 4 * q + p.s * 24) p its bl = D' := ⟨_, rfl⟩
   obtain ⟨T', hT'⟩ : ∃ T', allT T p its = T' := ⟨_, rfl⟩
   obtain ⟨p', hp'⟩ : ∃ p', allP p its bl = p' := ⟨_, rfl⟩
   rw [hD', hT', hp'] at hlw HE
   rw [hD', hp'] at HPE
   have HL2 := hide hlw
   have HR2 := hide (HRW.out.turn hk2 (fun y hy => by unfold allOf; simp [hy]) (allOf_sub (zp := zp) (g := g) (tp := tp) hsub))
   clear hlw hk2 hsub hD' hT' hp' HLK HPQ HPL HRW pt0 pt2 pt6 pt8 hac hln
   have HAV := hide (show ∀ S : List Nat, (∀ i ∈ S, i < w0.heap.size ∨ w2.heap.size ≤ i) → Vals w2 S A5 ((Q.map Prod.fst).map I) from by
    obtain ⟨A0, c0, e0, _, hh⟩ := own_read HR2.out.a
    cases e0
    exact hh)
   have HNV := hide (show ∀ S : List Nat, (∀ i ∈ S, i < w0.heap.size ∨ w2.heap.size ≤ i) → Vals w2 S A6 ((Q.map Prod.snd).map I) from by
    obtain ⟨A0, c0, e0, _, hh⟩ := own_read HR2.out.n
    cases e0
    exact hh)
   have hQn : Q.length ≤ 80 := by omega
   go_wp2
   go_loopw [17, 18, 19, 20, 21] (fun i _ _ _ _ wr => ∃ j : Nat, j ≤ Q.length ∧ i = .int .i64 j ∧ Hid (Kept [] w2 wr)) (fun i _ _ _ _ _ => Q.length - (intOf i).toNat)
   case atStart => exact ⟨0, Nat.zero_le _, rfl, hide (Kept.refl _ _)⟩
   case round =>
    obtain ⟨j, hj, rfl, HKj⟩ := hrel
    by_cases hjl : j < Q.length
    ·obtain ⟨x, hx⟩ : ∃ x, Q[j]? = some x := ⟨_, List.getElem?_eq_getElem hjl⟩
     have hxm := List.mem_of_getElem? hx
     obtain ⟨wd, hwd⟩ : ∃ wd, wr.drew = wd := ⟨_, rfl⟩
     have kd : Kept [] w2 wd := by rw [← hwd]; exact HKj.out.trans ((Kept.refl [] wr).drew) (by simp)
     have HKd := hide kd
     have HLd := hide (HL2.out.keep kd)
     obtain ⟨ad, hA5, _, a0⟩ := (HAV.out [] (by simp)).kept kd (by simp) j (I x.1) (by rw [List.getElem?_map, List.getElem?_map, hx]; rfl)
     obtain ⟨ae, hA6, _, b0⟩ := (HNV.out [] (by simp)).kept kd (by simp) j (I x.2) (by rw [List.getElem?_map, List.getElem?_map, hx]; rfl)
     subst hA5 hA6
     unfold I at a0 b0
     have HRK := hide (fun (W : World) (k : Kept [] w2 W) => (HL2.out.keep k).readk HPE.out HE.out.1.seg HE.out.1.tt x hxm)
     obtain ⟨sg, o, g1, g2, g3, g4, _, g6⟩ := HPE.out x hxm
     have hnow := (g6.resolve_left (by rintro ⟨_, jj, _, hjj, _⟩; simp [record.count] at hjj)).2
     have hp := HL2.out.ws.pl
     have hfit := hp.fits
     have hgb := HGB.out
     have hN : x.1.toNat < D'.n := by omega
     have HDR := hide (show D'.read x.1 = (0, fillOf x.2) from by have := hp.reads.read x.1.toNat hN; rw [hnow, show ((x.1.toNat : Nat) : Int) = x.1 by omega] at this; exact this)
     have HCd := hide (show True ∧ wd.cell? ⟨zp, 8, none⟩ = some (.pointer (some ⟨v, 0, none⟩)) ∧ wd.cell? (ad.add j) = some (.int .i64 x.1) from ⟨trivial, HLd.out.ptr.2.2.2, a0⟩)
     have HA0 := hide a0
     have HB0 := hide b0
     clear hx hxm g1 g2 g3 g4 g6 hnow hp hfit hgb hN kd a0 b0
     go_wp2
     refine wp_region_noPanic ?_
     refine wp_region_held_drew (S := fun W => True ∧ W.cell? ⟨zp, 8, none⟩ = some (.pointer (some ⟨v, 0, none⟩)) ∧ W.cell? (ad.add j) = some (.int .i64 x.1)) (by kernel_rfl) (by (try rw [hwd]); exact HCd.out) (fun hHeld => ?_)
     refine tK 0 150 rfl ?_
     try simp only [Act.put, pA, pB, pC]
     refine tK 1 151 rfl ?_
     try simp only [Act.put, pA, pB, pC]
     refine tK 2 152 rfl ?_
     try simp only [Act.put, pA, pB, pC]
     refine tK 3 153 rfl ?_
     try simp only [Act.put, pA, pB, pC]
     refine tK 4 154 rfl ?_
     try simp only [Act.put, pA, pB, pC]
     refine tK 5 155 rfl ?_
     try simp only [Act.put, pA, pB, pC]
     refine tK 6 156 rfl ?_
     try simp only [Act.put, pA, pB, pC]
     refine tK 7 157 rfl ?_
     try simp only [Act.put, pA, pB, pC]
     refine hO 8 (some 158) rfl fun K hK => ?_
     (try rw [hwd])
     go_simp
     refine (HRK.out _ HKd.out).mono ?_
     rintro e' w3 ⟨⟨A9, c9, rfl, hfr⟩, hk9⟩
     have HFR := hide hfr.vals
     have HK3 := hide (HKd.out.trans hk9 (by simp))
     have HA3 := hide (hk9.cell HA0.out (by simp))
     have HB3 := hide (hk9.cell HB0.out (by simp))
     clear hfr hk9
     refine hK.out _ _ (by exact ⟨trivial, (HL2.out.keep HK3.out).ptr.2.2.2, HA3.out⟩) (fun hHeld => ?_)
     clear hK K
     try simp only [Act.put, pA, pB, pC]
     refine tK 9 149 rfl ?_
     try simp only [Act.put, pA, pB, pC]
     refine tK 10 159 rfl ?_
     try simp only [Act.put, pA, pB, pC]
     refine tK 11 160 rfl ?_
     try simp only [Act.put, pA, pB, pC]
     refine tK 12 18 rfl ?_
     try simp only [Act.put, pA, pB, pC]
     refine tK 13 19 rfl ?_
     try simp only [Act.put, pA, pB, pC]
     refine wpAnyH_done (by kernel_rfl) ?_ _
     refine NoPanic.normal ?_
     obtain ⟨we, hwe⟩ : ∃ we, w3.drew = we := ⟨_, rfl⟩
     have ke : Kept [] w3 we := by rw [← hwe]; exact (Kept.refl [] w3).drew
     have HKe := hide (HK3.out.trans ke (by simp))
     have HFRe := hide (HFR.out.kept ke (by simp))
     have HAe := hide (ke.cell HA3.out (by simp))
     have HBe := hide (ke.cell HB3.out (by simp))
     have HCe := hide (show True ∧ we.cell? ⟨zp, 0, none⟩ = some (.pointer (some ⟨d, 0, none⟩)) ∧ we.cell? (ad.add j) = some (.int .i64 x.1) from ⟨trivial, (HL2.out.keep HKe.out).ptr.1, HAe.out⟩)
     clear ke hHeld hwd HCd HA0 HB0 HLd HKd
     go_wp2
     refine wp_region_noPanic ?_
     refine wp_region_held_drew (S := fun W => True ∧ W.cell? ⟨zp, 0, none⟩ = some (.pointer (some ⟨d, 0, none⟩)) ∧ W.cell? (ad.add j) = some (.int .i64 x.1)) (by kernel_rfl) (by (try rw [hwe]); exact HCe.out) (fun hHeld => ?_)
     refine tK 0 162 rfl ?_
     try simp only [Act.put, pA, pB, pC]
     refine tK 1 163 rfl ?_
     try simp only [Act.put, pA, pB, pC]
     refine tK 2 164 rfl ?_
     try simp only [Act.put, pA, pB, pC]
     refine tK 3 165 rfl ?_
     try simp only [Act.put, pA, pB, pC]
     refine tK 4 166 rfl ?_
     try simp only [Act.put, pA, pB, pC]
     refine tK 5 167 rfl ?_
     try simp only [Act.put, pA, pB, pC]
     refine tK 6 168 rfl ?_
     try simp only [Act.put, pA, pB, pC]
     refine tK 7 169 rfl ?_
     try simp only [Act.put, pA, pB, pC]
     refine hO 8 (some 170) rfl fun K hK => ?_
     (try rw [hwe])
     go_simp
     refine (disk.read_at d F' D' x.1 _ (HL2.out.keep HKe.out).ws.vd).mono ?_
     rintro e' w4 ⟨ha, hk4⟩
     rw [HDR.out] at ha
     obtain ⟨A4, c4, rfl, hf4⟩ := ha
     rw [fillOf_length] at hf4
     have HF4 := hide hf4.vals
     have HK4 := hide (HKe.out.trans hk4 (by simp))
     have HFR4 := hide (HFRe.out.kept hk4 (by simp))
     have HA4 := hide (hk4.cell HAe.out (by simp))
     have HB4 := hide (hk4.cell HBe.out (by simp))
     rw [fillOf_length]
     clear hf4 hk4
     refine hK.out _ _ (by exact ⟨trivial, (HL2.out.keep HK4.out).ptr.1, HA4.out⟩) (fun hHeld => ?_)
     clear hK K
     try simp only [Act.put, pA, pB, pC]
     refine tK 9 161 rfl ?_
     try simp only [Act.put, pA, pB, pC]
     refine tK 10 171 rfl ?_
     try simp only [Act.put, pA, pB, pC]
     refine tK 11 172 rfl ?_
     try simp only [Act.put, pA, pB, pC]
     refine tK 12 20 rfl ?_
     try simp only [Act.put, pA, pB, pC]
     refine tK 13 21 rfl ?_
     try simp only [Act.put, pA, pB, pC]
     refine wpAnyH_done (by kernel_rfl) ?_ _
     refine NoPanic.normal ?_
     clear hHeld hwe HCe HAe HBe HFRe HKe
     have b4 := HB4.out
     go_wp2_with fail
     refine (fill_any x.2 _).mono ?_
     rintro e' w5 ⟨g5, rfl, hg5, harr5, hk5⟩
     have HV5 := hide (harr5.vals (S := []) (by simp))
     have HK5 := hide (HK4.out.trans hk5 (by simp))
     have HFR5 := hide (HFR4.out.kept hk5 (by simp))
     have HF5 := hide (HF4.out.kept hk5 (by simp))
     have b5 := hk5.cell b4 (by simp)
     clear harr5 hk5 hg5 b4
     go_wp2_with fail
     refine (base.bytes_any _ (some ⟨g5, 0, none⟩) 64 64 _ 64 (fillOf x.2) (fillOf x.2) _ (fillOf_length _) (fillOf_length _) HFR5.out HV5.out (by decide)).mono ?_
     rintro e' wx ⟨rfl, ⟨kx, rfl⟩⟩
     rw [show decide (fillOf x.2 = fillOf x.2) = true from decide_eq_true rfl]
     have kz := (Kept.refl [] w5).drewN kx
     have HK6 := hide (HK5.out.trans kz (by simp))
     have HF6 := hide (HF5.out.kept kz (by simp))
     have b6 := kz.cell b5 (by simp)
     obtain ⟨w6, hw6⟩ : ∃ w6, w5.drewN kx = w6 := ⟨_, rfl⟩
     rw [hw6] at HK6 HF6 b6 ⊢
     clear kz hw6 b5 HFR5 HV5
     go_wp2_with fail
     refine (fill_any x.2 _).mono ?_
     rintro e' w7 ⟨g7, rfl, hg7, harr7, hk7⟩
     have HV7 := hide (harr7.vals (S := []) (by simp))
     have HK7 := hide (HK6.out.trans hk7 (by simp))
     have HF7 := hide (HF6.out.kept hk7 (by simp))
     clear harr7 hk7 hg7 b6
     go_wp2_with fail
     refine (base.bytes_any _ (some ⟨g7, 0, none⟩) 64 64 _ 64 (fillOf x.2) (fillOf x.2) _ (fillOf_length _) (fillOf_length _) HF7.out HV7.out (by decide)).mono ?_
     rintro e' wx ⟨rfl, ⟨ky, rfl⟩⟩
     rw [show decide (fillOf x.2 = fillOf x.2) = true from decide_eq_true rfl]
     have HK8 := hide (HK7.out.trans ((Kept.refl [] w7).drewN ky) (by simp))
     go_wp2
     go_roundw
     case rel => exact ⟨j + 1, by omega, by go_num, HK8⟩
     case measure => simp [intOf]; omega
    ·obtain rfl : j = Q.length := by omega
     go_wp2_with fail
     refine (awake_any _).mono ?_
     rintro e' w9 ⟨rfl, hk9⟩
     have HK9 := hide (((HK0.out.trans HL2.out.kept (by simp)).trans HKj.out (by simp)).trans hk9 (by simp))
     clear hk9
     go_wp2
     go_ret
     exact ⟨rfl, HK9.out⟩
end Go.Proofs.YtolbalafhfpjbaaGreat.wr
