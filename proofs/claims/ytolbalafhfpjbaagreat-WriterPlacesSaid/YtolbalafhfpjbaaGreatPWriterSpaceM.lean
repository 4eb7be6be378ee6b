import Derived.Test.YtolbalafhfpjbaaGreatPWriterMade
set_option linter.unusedSimpArgs false
set_option linter.unusedVariables false
namespace Go.Proofs.YtolbalafhfpjbaaGreat.wr
open Go.RowKit mem base disk owns geom
open sc (Ps Seal sealed Reads)
open us (Rw TAt RAt grabOf shutOf inState backOf)
open item (It Items valsOf allMay)
open record (cell5)
theorem small_any (w : World) : Calls Tryz.prog 54 #[] w fun e w' => e = .returned (.agg #[.int .i64 8, .int .i64 8, .int .i64 24]) ∧ Kept [] w w' := by
 have HK := hide (show ∀ vs : Array Value, Kept [] w (w.alloc (.cells vs 29)) from fun vs => (Kept.refl [] w).alloc _)
 go_enter Tryz.func54, Tryz.ntmps54
 go_wp2
 refine bodyPost_ret (v := .agg #[.int .i64 8, .int .i64 8, .int .i64 24]) (by simp [results, Tryz.results54, go_sem]) rfl ⟨rfl, HK.out _⟩
def ours (v V : Nat) (F : List Nat) (A : Option Addr) (n c : Nat) (H : Option Addr) (m e : Nat) : List Nat := v :: V :: (F ++ (Value.slice A n c).ownBlock.toList ++ (Value.slice H m e).ownBlock.toList)
structure Lwr (w W : World) (zp v d g tp V rd rt : Nat) (xp : Option Addr) (b s l r q : Int) (D : Dk) (T : List Rw) (p : Ps) (its : List It) (bl : List UInt8) (F : List Nat) (A : Option Addr) (c : Nat) (H : Option Addr) (e : Nat) : Prop where
 ws : Ws W w.heap.size v d g tp V F b s l r q D T p its bl A c H e
 blk : Blk W zp 82 #[.pointer (some ⟨d, 0, none⟩), .pointer (some ⟨rd, 0, none⟩), .pointer (some ⟨g, 0, none⟩), .int .i64 b, .int .i64 s, .int .i64 l, .pointer (some ⟨tp, 0, none⟩), .pointer (some ⟨rt, 0, none⟩), .pointer (some ⟨v, 0, none⟩), .pointer xp]
 zn : zp ∉ ours v V F A its.length c H bl.length e
 new : ∀ x ∈ ours v V F A its.length c H bl.length e, w.heap.size ≤ x
 kept : Kept [] w W
section
variable {w W W' : World} {zp v d g tp V rd rt : Nat} {xp : Option Addr} {b s l r q : Int} {D : Dk} {T : List Rw} {p : Ps} {its : List It} {bl : List UInt8} {F : List Nat} {A : Option Addr} {c : Nat} {H : Option Addr} {e : Nat}
theorem Lwr.keep (h : Lwr w W zp v d g tp V rd rt xp b s l r q D T p its bl F A c H e) (k : Kept [] W W') : Lwr w W' zp v d g tp V rd rt xp b s l r q D T p its bl F A c H e :=
 ⟨h.ws.keep k, k.blk h.blk (by simp), h.zn, h.new, h.kept.trans k (by simp)⟩
theorem Lwr.ptr (h : Lwr w W zp v d g tp V rd rt xp b s l r q D T p its bl F A c H e) : W.cell? ⟨zp, 0, none⟩ = some (.pointer (some ⟨d, 0, none⟩)) ∧ W.cell? ⟨zp, 2, none⟩ = some (.pointer (some ⟨g, 0, none⟩)) ∧ W.cell? ⟨zp, 6, none⟩ = some (.pointer (some ⟨tp, 0, none⟩)) ∧ W.cell? ⟨zp, 8, none⟩ = some (.pointer (some ⟨v, 0, none⟩)) := ⟨h.blk.cell 0, h.blk.cell 2, h.blk.cell 6, h.blk.cell 8⟩
theorem Lwr.lt (h : Lwr w W zp v d g tp V rd rt xp b s l r q D T p its bl F A c H e) : ∀ x ∈ ours v V F A its.length c H bl.length e, x < W.heap.size := fun x hx => by
 unfold ours at hx
 simp only [List.mem_cons, List.mem_append] at hx
 rcases hx with rfl | rfl | (hx | hx) | hx
 ·exact h.ws.at_.lt
 ·exact h.ws.tab.seg.lt
 ·exact h.ws.vd.lt x hx
 ·exact (own_blk h.ws.own x hx).2.1
 ·exact (own_blk h.ws.byt x hx).2.1
theorem Lwr.step {D' : Dk} {T' : List Rw} {p' : Ps} {its' : List It} {bl' : List UInt8} (h : Lwr w W zp v d g tp V rd rt xp b s l r q D T p its bl F A c H e) (hs : Step W W' w.heap.size v d g tp V F b s l r q its bl A c H e D' T' p' its' bl') : ∃ F' A' c' H' e', Lwr w W' zp v d g tp V rd rt xp b s l r q D' T' p' its' bl' F' A' c' H' e' ∧ Kept (ours v V F A its.length c H bl.length e) W W' := by
 obtain ⟨F', A', c', H', e', h1, h2, h3, h4, h5⟩ := hs
 have hsz := h.kept.size
 have hz := h.blk.lt
 have sub : ∀ x ∈ ours v V F' A' its'.length c' H' bl'.length e', x ∈ ours v V F A its.length c H bl.length e ∨ W.heap.size ≤ x := fun x hx => by
  unfold ours at hx ⊢
  simp only [List.mem_cons, List.mem_append] at hx ⊢
  rcases hx with rfl | rfl | (hx | hx) | hx
  ·exact .inl (.inl rfl)
  ·exact .inl (.inr (.inl rfl))
  ·exact (h2 x hx).imp (fun g => .inr (.inr (.inl (.inl g)))) id
  ·exact (h4 x hx).imp (fun g => .inr (.inr (.inl (.inr g)))) id
  ·exact (h5 x hx).imp (fun g => .inr (.inr (.inr g))) id
 exact ⟨F', A', c', H', e', ⟨h1, h3.blk h.blk h.zn, fun hm => (sub zp hm).elim h.zn (fun g => by omega), fun x hx => (sub x hx).elim (h.new x) (fun g => by omega), h.kept.trans h3 (fun j hj => .inr (h.new j hj))⟩, h3⟩
theorem Lwr.of_made {m m2 z n U L : Nat} {G : List Nat} {T2 : List Rw} (h : Mst w W m m2 z zp d rd g tp V rt U L F G n b s l r q p T T2 (some ⟨v, 0, none⟩) xp) (hn : (n : Int) = 2 + 2 * r + 4 * q + s * l) (hk : Kept [] w W) (hp : placeOk s l p) (hl : p.l ≤ 2000000000) (hv : zp < v) (ha : WAt W v d g tp p none 0 0 none 0 0) :
  Lwr w W zp v d g tp V rd rt xp b s l r q (Dk.new n) T p [] [] F none 0 none 0 := by
 obtain ⟨o1, o2, o3, o4, o5, o6⟩ := h.ord
 have hF : ∀ x ∈ F, g < x ∧ x < m := fun x hx => o4 x (by simp [hx])
 have hok := h.geo.ok
 have hbd := h.geo.bounds
 unfold Ok at hok
 have hm := geom.mul_le (i := s) (s := s) (l := l) (by omega) (by omega) (by omega) (by omega) (by omega)
 have hin : ∀ x ∈ ours v V F none 0 0 none 0 0, x = v ∨ x = V ∨ x ∈ F := fun x hx => by
  unfold ours at hx
  simpa [Value.ownBlock] using hx
 refine ⟨⟨ha, h.geo, h.pr.a.1, h.tab, ⟨rfl, .inl ⟨rfl, rfl⟩⟩, ⟨rfl, .inl ⟨rfl, rfl⟩⟩, ?_, ⟨by omega, by omega⟩, by simp [Value.ownBlock], by simp [Value.ownBlock], ?_⟩, h.blk, fun hm => ?_, fun x hx => ?_, hk⟩
 ·refine ⟨fun hm => ?_, fun hm => ?_, fun hm => ?_, fun hm => ?_, by omega, by omega, by omega⟩
  ·have := hF _ hm; omega
  ·have := hF _ hm; omega
  ·have := hF _ hm; omega
  ·have := hF _ hm; omega
 ·refine ⟨hp.1, hp.2.1, ⟨hp.2.2.1.1, hl⟩, hp.2.2.2.1, hp.2.2.2.2, ?_, rfl, fun hh => absurd rfl hh, Reads.new n (by omega) (by omega), ?_, ?_⟩
  ·exact ⟨(fun x hx => by cases hx), by simp⟩
  ·have hdn : (Dk.new n).n = n := by simp [Dk.n, Dk.new]
   rw [hdn]
   omega
  ·simp [Dk.new]
 ·rcases hin _ hm with hh | hh | hh
  ·omega
  ·omega
  ·have := hF _ hh; omega
 ·rcases hin x hx with rfl | rfl | hh
  ·omega
  ·omega
  ·have := hF _ hh; omega
end
theorem allP_off (p : Ps) (its : List It) (bl : List UInt8) (h0 : 0 ≤ p.o) : offOf (allP p its bl) ≤ offOf p + 1 + record.count its := by
 have h1 := offOf_le h0
 unfold allP
 split
 ·omega
 ·unfold emitP
  have h2 := offOf_le (p := ⟨p.s, offOf p + (1 + (record.count its : Int)), p.l + 1, ((recAt (atOf p) its bl (record.count its)).sum : Int), p.m⟩) (by show 0 ≤ offOf p + (1 + (record.count its : Int)); omega)
  rcases h2.2.2 with h3 | h3
  ·rw [h3]; show offOf p + (1 + (record.count its : Int)) ≤ _; omega
  ·have h4 : offOf p + (1 + (record.count its : Int)) = 0 := h3.1
   omega
section
variable {w W : World} {zp v d g tp V rd rt : Nat} {xp : Option Addr} {b s l r q : Int} {D : Dk} {T : List Rw} {p : Ps} {its : List It} {bl : List UInt8} {F : List Nat} {A : Option Addr} {c : Nat} {H : Option Addr} {e : Nat} (i : It) (Bp : Option Addr) (nb cb : Nat) (bb : List UInt8) (spare : Bool)
theorem Lwr.add_fit (h : Lwr w W zp v d g tp V rd rt xp b s l r q D T p its bl F A c H e) (hadd : addOk i nb) (hbb : bb.length = nb) (hf : fit1 l p its i) (hv : Vals W (ours v V F A its.length c H bl.length e) Bp (bb.map B)) :
  Calls Tryz.prog 42 #[.pointer (some ⟨v, 0, none⟩), i.val, .slice Bp nb cb, .bool spare] W fun ex W' => ex = .returned (.tuple #[.int .i64 (heldAt r q l p its i), .int .i64 0]) ∧ ∃ F' A' c' H' e', Lwr w W' zp v d g tp V rd rt xp b s l r q D T p (its ++ [i]) (bl ++ bb) F' A' c' H' e' ∧ Kept (ours v V F A its.length c H bl.length e) W W' :=
 (add_ok w.heap.size v d g tp V F b s l r q D T p its bl A c H e i Bp nb cb bb spare W h.ws h.kept.size hadd hbb hv (fun W1 k => (room_keep w.heap.size v d g tp V F b s l r q D T p its bl A c H e i spare W1 (h.ws.keep k) hf)) hf.1 (by have := hf.2; omega)).mono fun ex W' ⟨he, hs⟩ => ⟨he, h.step hs⟩
theorem Lwr.add_emit (h : Lwr w W zp v d g tp V rd rt xp b s l r q D T p its bl F A c H e) (hadd : addOk i nb) (hbb : bb.length = nb) (hn : ¬ fit1 l p its i) (hf : fit2 l p its i) (hac : D.acts ≤ 700000) (hln : p.l ≤ 1900000000) (hv : Vals W (ours v V F A its.length c H bl.length e) Bp (bb.map B)) :
  Calls Tryz.prog 42 #[.pointer (some ⟨v, 0, none⟩), i.val, .slice Bp nb cb, .bool spare] W fun ex W' => ex = .returned (.tuple #[.int .i64 (heldAt r q l (allP p its bl) [] i), .int .i64 0]) ∧ ∃ F' A' c' H' e', Lwr w W' zp v d g tp V rd rt xp b s l r q (allD D (2 + 2 * r + 4 * q + p.s * l) p its bl) (allT T p its) (allP p its bl) ([] ++ [i]) ([] ++ bb) F' A' c' H' e' ∧ Kept (ours v V F A its.length c H bl.length e) W W' :=
 (add_ok w.heap.size v d g tp V F b s l r q D T p its bl A c H e i Bp nb cb bb spare W h.ws h.kept.size hadd hbb hv (fun W1 k => (room_emit w.heap.size v d g tp V F b s l r q D T p its bl A c H e i spare W1 (h.ws.keep k) hn hf hac hln)) (by simp) (by have h1 := allP_off p its bl h.ws.pl.off.1; unfold fit2 at hf; show offOf (allP p its bl) + 1 + ((record.count [] : Int) + ldOf i) ≤ l - 1; simp only [record.count, List.filter_nil, List.length_nil]; omega)).mono fun ex W' ⟨he, hs⟩ => ⟨he, h.step hs⟩
end
end Go.Proofs.YtolbalafhfpjbaaGreat.wr

namespace Go.Proofs.YtolbalafhfpjbaaGreat.wr
open Go.RowKit mem base disk owns geom
open sc (Ps Seal sealed Reads putk)
open us (Rw TAt RAt grabOf shutOf inState backOf)
open item (It Items valsOf allMay)
open record (cell5 Rc)
theorem emit_held {s l r q : Int} {p : Ps} {its : List It} {bl : List UInt8} {D : Dk} (h : Pl s l r q p its bl D) (hne : its ≠ []) (hs : s ≤ 32) (h0 : 0 ≤ r ∧ 0 ≤ q) (hl : 1 ≤ l ∧ l ≤ 1000) (hac : D.acts ≤ 700000) (hln : p.l ≤ 1900000000) :
  (emitD D (2 + 2 * r + 4 * q + p.s * l) p its bl).held.length = D.held.length + (if p.o = 0 then 1 else 0) + (1 + record.count its) := by
 obtain ⟨_, _, _, hp1, hp2, _⟩ := emit_pl h hne hs h0 hl hac hln
 have hof := offOf_le h.off.1
 have hrm := h.room hne
 have h1 : 0 ≤ p.s * l := Int.mul_nonneg h.place.1 (by omega)
 have h2 : p.s * l ≤ (s - 1) * l := Int.mul_le_mul_of_nonneg_right h.place.2 (by omega)
 rw [Int.sub_mul, Int.one_mul] at h2
 have h3 := h.fits
 have hh : (preD D (2 + 2 * r + 4 * q + p.s * l) p).held.length = D.held.length + (if p.o = 0 then 1 else 0) := by
  unfold preD
  split
  ·unfold headD
   rw [h.reads.live.write _ _ (by unfold Dk.has; exact decide_eq_true ⟨by omega, by omega⟩) (hd.Hd.bytes_len _)]
   simp
  ·rfl
 have hb := Rc.bytes_len (rec_ok h hne)
 rw [show (recAt (atOf p) its bl (record.count its)).bks.length = record.count its from blksOf_len _ _] at hb
 obtain ⟨a, ha⟩ : ∃ a : Nat, 2 + 2 * r + 4 * q + p.s * l + offOf p = (a : Int) := ⟨(2 + 2 * r + 4 * q + p.s * l + offOf p).toNat, by omega⟩
 unfold emitD
 rw [ha]
 obtain ⟨_, _, _, _, _, h6, _⟩ := sc.putk_live hp1.live hp1.ok a _ (1 + record.count its) (by rw [hp2]; omega) hb _ (Nat.le_refl _)
 rw [h6, hh]
def aItem (k : Nat) : It := ⟨1, (k : Int), 0, 0⟩
theorem aItem_loaded : ∀ k, k < 8 → (aItem k).loaded = true := by decide
def aIts (k : Nat) : List It := (List.range k).map aItem
def aBl : Nat → List UInt8
 | 0 => []
 | k + 1 => aBl k ++ fillOf (k : Int)
theorem aIts_succ (k : Nat) : aIts (k + 1) = aIts k ++ [aItem k] := by unfold aIts; rw [List.range_succ, List.map_append]; rfl
theorem aIts_len (k : Nat) : (aIts k).length = k := by simp [aIts]
theorem aIts_count (k : Nat) (hk : k ≤ 8) : record.count (aIts k) = k := by
 induction k with
 | zero => rfl
 | succ k ih =>
  replace ih := ih (by omega)
  rw [aIts_succ]
  unfold record.count at ih ⊢
  rw [List.filter_append, List.length_append, ih]
  simp [aItem_loaded k (by omega)]
theorem aBl_len (k : Nat) : (aBl k).length = 64 * k := by
 induction k with
 | zero => rfl
 | succ k ih => unfold aBl; rw [List.length_append, ih, fillOf_length]; omega
theorem aBl_last (k : Nat) : ((aBl (k + 1)).drop (64 * k)).take 64 = fillOf (k : Int) := by
 unfold aBl
 rw [List.drop_append_of_le_length (by rw [aBl_len]; omega), List.drop_of_length_le (by rw [aBl_len]; omega), List.nil_append, List.take_of_length_le (by rw [fillOf_length]; omega)]
theorem aItem_ok : ∀ k, k < 6 → addOk (aItem k) 64 := by decide
theorem field_o (a b c d e : Int) (w : World) : (Instr.field 24 (.agg #[.int .i64 a, .int .i64 b, .int .i64 c, .int .i64 d, .int .i64 e]) 1).run Tryz.prog w = .ok (.int .i64 b) w := by kernel_rfl
def aPs : Ps := ⟨0, 0, 1, 0, 2⟩
def aAt (f : Int) : Nat → Int
 | 0 => 0
 | k + 1 => f + k
set_option maxRecDepth 100000 in
set_option maxHeartbeats 4000000 in
theorem awake_any (w : World) : Calls Tryz.prog 39 #[] w fun e w' => e = .returned (.bool true) ∧ Kept [] w w' := by
 go_enter Tryz.func39, Tryz.ntmps39
 go_wp2_with fail
 refine (small_any _).mono ?_
 rintro e w0 ⟨rfl, hk0⟩
 have HK0 := hide hk0
 clear hk0
 go_wp2_with fail
 refine (made_any 8 8 24 aPs none 0 0 [] _ (by unfold geom.Ok; omega) (Vals.nil _ _ _) rfl (by omega)).mono ?_
 rintro e w1 ⟨m, m2, z, zp, d, rd, g, tp, V, rt, U, L, F, G, n, r, q, vp, xp0, rfl, hm, hn, hk, hv⟩
 obtain ⟨hp, v, x, rfl, rfl, hzv, hvx, hat, hrat⟩ := hv.resolve_right (fun hh => hh.1 (by decide))
 have hlw0 := Lwr.of_made hm hn hk hp (by decide) hzv hat
 obtain ⟨xp, hxp⟩ : ∃ xp : Option Addr, some ⟨x, 0, none⟩ = xp := ⟨_, rfl⟩
 rw [hxp] at hlw0
 have hbd := hm.geo.bounds
 have HGB := hide (show 2 ≤ r ∧ r ≤ 4 ∧ 1 ≤ q ∧ q ≤ 5 from hbd)
 have HGR := hide hm.geo
 have HN := hide hn
 clear hv hp hat hrat hn hbd hxp
 obtain ⟨D0, hD0⟩ : ∃ D0, Dk.new n = D0 := ⟨_, rfl⟩
 rw [hD0] at hlw0
 have HD0 := hide (show D0.held.length = 0 ∧ D0.acts = 0 from by rw [← hD0]; exact ⟨rfl, rfl⟩)
 obtain ⟨T0, hT0⟩ : ∃ T0, busyT 8 aPs [] = T0 := ⟨_, rfl⟩
 rw [hT0] at hlw0
 have HL0 := hide hlw0
 have hpt := hlw0.ptr
 obtain ⟨pt0, pt2, pt6, pt8⟩ := hpt
 have HKW := hide (HK0.out.trans hk (by simp))
 have HWN := hide (fun W => wnew_nil (some ⟨g, 0, none⟩) (some ⟨tp, 0, none⟩) aPs W)
 have HWZ := hide (fun W hg => wnew_one d g tp 8 8 24 r q ⟨0, 0, 0, 0, 0⟩ W hg)
 unfold Ps.val aPs at HWN
 unfold Ps.val at HWZ
 dsimp only at HWN HWZ
 clear hlw0 hm hk hD0 hT0 HGR
 have HC := hide (show w1.drew.cell? ⟨zp, 0, none⟩ = some (.pointer (some ⟨d, 0, none⟩)) ∧ w1.drew.cell? ⟨zp, 2, none⟩ = some (.pointer (some ⟨g, 0, none⟩)) ∧ w1.drew.cell? ⟨zp, 6, none⟩ = some (.pointer (some ⟨tp, 0, none⟩)) ∧ w1.drew.cell? ⟨zp, 8, none⟩ = some (.pointer (some ⟨v, 0, none⟩)) from (HL0.out.keep ((Kept.refl [] w1).drew)).ptr)
 have HL1 := hide (HL0.out.keep ((Kept.refl [] w1).drew))
 go_wp2
 refine wp_region_noPanic ?_
 refine wp_region_held_drew (S := fun W => True ∧ W.cell? ⟨zp, 0, none⟩ = some (.pointer (some ⟨d, 0, none⟩)) ∧ W.cell? ⟨zp, 2, none⟩ = some (.pointer (some ⟨g, 0, none⟩)) ∧ W.cell? ⟨zp, 6, none⟩ = some (.pointer (some ⟨tp, 0, none⟩)) ∧ W.cell? ⟨zp, 8, none⟩ = some (.pointer (some ⟨v, 0, none⟩))) (by kernel_rfl) (by exact ⟨trivial, HC.out⟩) (fun hHeld => ?_)
 refine tK 0 22 rfl ?_
 try simp only [Act.put, pA, pB, pC]
 refine tK 1 23 rfl ?_
 try simp only [Act.put, pA, pB, pC]
 refine tK 2 24 rfl ?_
 try simp only [Act.put, pA, pB, pC]
 refine tK 3 25 rfl ?_
 try simp only [Act.put, pA, pB, pC]
 refine tK 4 26 rfl ?_
 try simp only [Act.put, pA, pB, pC]
 refine tK 5 27 rfl ?_
 try simp only [Act.put, pA, pB, pC]
 refine tK 6 28 rfl ?_
 try simp only [Act.put, pA, pB, pC]
 refine tK 7 29 rfl ?_
 try simp only [Act.put, pA, pB, pC]
 refine tK 8 30 rfl ?_
 try simp only [Act.put, pA, pB, pC]
 refine tK 9 31 rfl ?_
 try simp only [Act.put, pA, pB, pC]
 refine tK 10 32 rfl ?_
 try simp only [Act.put, pA, pB, pC]
 refine tK 11 33 rfl ?_
 try simp only [Act.put, pA, pB, pC]
 refine tK 12 34 rfl ?_
 try simp only [Act.put, pA, pB, pC]
 refine tK 13 35 rfl ?_
 try simp only [Act.put, pA, pB, pC]
 refine tK 14 36 rfl ?_
 try simp only [Act.put, pA, pB, pC]
 refine tK 15 37 rfl ?_
 try simp only [Act.put, pA, pB, pC]
 refine tK 16 38 rfl ?_
 try simp only [Act.put, pA, pB, pC]
 refine tK 17 39 rfl ?_
 try simp only [Act.put, pA, pB, pC]
 refine tK 18 40 rfl ?_
 try simp only [Act.put, pA, pB, pC]
 refine hO 19 (some 41) rfl fun K hK => ?_
 go_simp
 refine (HWN.out _).mono ?_
 rintro e w2 ⟨rfl, hk2⟩
 have HL2 := hide (HL1.out.keep hk2)
 clear hk2
 refine hK.out _ _ (by exact ⟨trivial, HL2.out.ptr⟩) (fun hHeld => ?_)
 clear hK K
 try simp only [Act.put, pA, pB, pC]
 refine tK 20 42 rfl ?_
 try simp only [Act.put, pA, pB, pC]
 refine tK 21 43 rfl ?_
 try simp only [Act.put, pA, pB, pC]
 refine tK 22 44 rfl ?_
 try simp only [Act.put, pA, pB, pC]
 refine tK 23 45 rfl ?_
 try simp only [Act.put, pA, pB, pC]
 refine tK 24 46 rfl ?_
 try simp only [Act.put, pA, pB, pC]
 refine tK 25 47 rfl ?_
 try simp only [Act.put, pA, pB, pC]
 refine tK 26 48 rfl ?_
 try simp only [Act.put, pA, pB, pC]
 refine tK 27 49 rfl ?_
 try simp only [Act.put, pA, pB, pC]
 refine tK 28 50 rfl ?_
 try simp only [Act.put, pA, pB, pC]
 refine tK 29 51 rfl ?_
 try simp only [Act.put, pA, pB, pC]
 refine tK 30 52 rfl ?_
 try simp only [Act.put, pA, pB, pC]
 refine tK 31 53 rfl ?_
 try simp only [Act.put, pA, pB, pC]
 refine tK 32 54 rfl ?_
 try simp only [Act.put, pA, pB, pC]
 refine tK 33 55 rfl ?_
 try simp only [Act.put, pA, pB, pC]
 refine tK 34 56 rfl ?_
 try simp only [Act.put, pA, pB, pC]
 refine tK 35 57 rfl ?_
 try simp only [Act.put, pA, pB, pC]
 refine hO 36 (some 58) rfl fun K hK => ?_
 go_simp
 refine (HWZ.out _ HL2.out.ws.geo).mono ?_
 rintro e w3 ⟨vp3, rfl, hk3, hv3⟩
 obtain ⟨_, rfl⟩ := hv3.resolve_left (fun hh => absurd hh.1.2.2.1.1 (by decide))
 have HL3 := hide (HL2.out.keep hk3)
 clear hk3 hv3
 refine hK.out _ _ (by exact ⟨trivial, HL3.out.ptr⟩) (fun hHeld => ?_)
 clear hK K
 try simp only [Act.put, pA, pB, pC]
 refine tK 37 59 rfl ?_
 try simp only [Act.put, pA, pB, pC]
 refine tK 38 60 rfl ?_
 try simp only [Act.put, pA, pB, pC]
 refine wpAnyH_done (by kernel_rfl) ?_ _
 refine NoPanic.normal ?_
 obtain ⟨f, hf⟩ : ∃ f, fstAt r q 24 aPs = f := ⟨_, rfl⟩
 have HF := sealed hf
 have HFB := hide (show 0 ≤ f ∧ f ≤ 10000 by rw [← hf]; have := HGB.out; unfold fstAt aPs offOf; dsimp only; split <;> omega)
 have HHA := hide (show ∀ k, k < 6 → heldAt r q 24 aPs (aIts k) (aItem k) = f + k from fun k hk => by
  unfold heldAt
  rw [if_pos (aItem_loaded k (by omega)), aIts_count k (by omega), ← hf]
  rfl)
 clear hf HL0 HC HL1 HL2 HWN HWZ pt0 pt2 pt6 pt8 hHeld
 go_wp2
 go_loopw [3, 4, 5, 6] (fun a i _ _ wr => ∃ k : Nat, k ≤ 6 ∧ i = .int .i64 k ∧ a = .int .i64 (aAt f k) ∧ ∃ F A c H e, Hid (Lwr w0 wr zp v d g tp V rd rt xp 8 8 24 r q D0 T0 aPs (aIts k) (aBl k) F A c H e)) (fun _ i _ _ _ => 6 - (intOf i).toNat)
 case atStart => exact ⟨0, by omega, rfl, rfl, F, none, 0, none, 0, HL3⟩
 case round =>
  clear HL3
  obtain ⟨k, hk, rfl, rfl, F2, A, c, H, e, HLK⟩ := hrel
  by_cases hlt : k < 6
  ·have e1 : decide ((k : Int) < 6) = true := decide_eq_true (by omega)
   have HLd := hide (HLK.out.keep ((Kept.refl [] wr).drew))
   have HCd := hide (show wr.drew.cell? ⟨zp, 0, none⟩ = some (.pointer (some ⟨d, 0, none⟩)) ∧ wr.drew.cell? ⟨zp, 2, none⟩ = some (.pointer (some ⟨g, 0, none⟩)) ∧ wr.drew.cell? ⟨zp, 6, none⟩ = some (.pointer (some ⟨tp, 0, none⟩)) ∧ wr.drew.cell? ⟨zp, 8, none⟩ = some (.pointer (some ⟨v, 0, none⟩)) from HLd.out.ptr)
   have HHk := hide (HHA.out k hlt)
   have HOK := hide (aItem_ok k hlt)
   have HFT := hide (show fit1 24 aPs (aIts k) (aItem k) from by unfold fit1 ldOf; rw [aIts_len, aIts_count k (by omega), if_pos (aItem_loaded k (by omega))]; unfold aPs offOf; simp; omega)
   have hkw : IntKind.i64.wrap ((k : Int) + 1) = (k : Int) + 1 := IntWalk.i64_in _ (by omega)
   clear HLK
   go_wp2
   refine wp_region_noPanic ?_
   refine wp_region_held_drew (S := fun W => True ∧ W.cell? ⟨zp, 0, none⟩ = some (.pointer (some ⟨d, 0, none⟩)) ∧ W.cell? ⟨zp, 2, none⟩ = some (.pointer (some ⟨g, 0, none⟩)) ∧ W.cell? ⟨zp, 6, none⟩ = some (.pointer (some ⟨tp, 0, none⟩)) ∧ W.cell? ⟨zp, 8, none⟩ = some (.pointer (some ⟨v, 0, none⟩))) (by kernel_rfl) (by exact ⟨trivial, HCd.out⟩) (fun hHeld => ?_)
   refine tK 0 66 rfl ?_
   try simp only [Act.put, pA, pB, pC]
   refine tK 1 67 rfl ?_
   try simp only [Act.put, pA, pB, pC]
   refine tK 2 68 rfl ?_
   try simp only [Act.put, pA, pB, pC]
   refine tK 3 69 rfl ?_
   try simp only [Act.put, pA, pB, pC]
   refine tK 4 70 rfl ?_
   try simp only [Act.put, pA, pB, pC]
   refine tK 5 71 rfl ?_
   try simp only [Act.put, pA, pB, pC]
   refine tK 6 72 rfl ?_
   try simp only [Act.put, pA, pB, pC]
   refine hO 7 (some 73) rfl fun K hK => ?_
   go_simp
   refine (fill_any (k : Int) _).mono ?_
   rintro e' wa ⟨gf, rfl, hgf, harr, hka⟩
   have HLa := hide (HLd.out.keep hka)
   have HVa := hide (show Vals wa (ours v V F2 A (aIts k).length c H (aBl k).length e) (some ⟨gf, 0, none⟩) ((fillOf (k : Int)).map B) from harr.vals (fun hm => by have := HLd.out.lt _ hm; omega))
   clear harr hka hgf
   refine hK.out _ _ (by exact ⟨trivial, HLa.out.ptr⟩) (fun hHeld => ?_)
   clear hK K
   try simp only [Act.put, pA, pB, pC]
   refine hO 8 (some 74) rfl fun K hK => ?_
   go_simp
   refine (HLa.out.add_fit (aItem k) (some ⟨gf, 0, none⟩) 64 64 (fillOf (k : Int)) false HOK.out (fillOf_length _) HFT.out HVa.out).mono ?_
   rw [HHk.out]
   rintro e' wb ⟨rfl, F3, A3, c3, H3, e3, hlb, hkb⟩
   have HLb := hide hlb
   clear hlb hkb
   refine hK.out _ _ (by exact ⟨trivial, HLb.out.ptr⟩) (fun hHeld => ?_)
   clear hK K
   try simp only [Act.put, pA, pB, pC]
   refine tK 9 65 rfl ?_
   try simp only [Act.put, pA, pB, pC]
   refine tK 10 75 rfl ?_
   try simp only [Act.put, pA, pB, pC]
   refine tK 11 76 rfl ?_
   try simp only [Act.put, pA, pB, pC]
   refine tK 12 5 rfl ?_
   try simp only [Act.put, pA, pB, pC]
   refine tK 13 6 rfl ?_
   try simp only [Act.put, pA, pB, pC]
   refine wpAnyH_done (by kernel_rfl) ?_ _
   refine NoPanic.normal ?_
   clear hHeld HCd HLd HLa HVa
   go_wp2
   go_roundw
   case rel => exact ⟨k + 1, by omega, by go_num, rfl, F3, A3, c3, H3, e3, by rw [aIts_succ]; exact HLb⟩
   case measure => simp [intOf]; omega
  ·have hk6 : k = 6 := by omega
   subst hk6
   clear HHA hk hlt
   have HLd := hide (HLK.out.keep ((Kept.refl [] wr).drew))
   have HCd := hide (show wr.drew.cell? ⟨zp, 0, none⟩ = some (.pointer (some ⟨d, 0, none⟩)) ∧ wr.drew.cell? ⟨zp, 2, none⟩ = some (.pointer (some ⟨g, 0, none⟩)) ∧ wr.drew.cell? ⟨zp, 6, none⟩ = some (.pointer (some ⟨tp, 0, none⟩)) ∧ wr.drew.cell? ⟨zp, 8, none⟩ = some (.pointer (some ⟨v, 0, none⟩)) from HLd.out.ptr)
   have h6a : (aIts 6).length = 6 := aIts_len 6
   clear HLK
   go_wp2
   refine wp_region_noPanic ?_
   refine wp_region_held_drew (S := fun W => True ∧ W.cell? ⟨zp, 0, none⟩ = some (.pointer (some ⟨d, 0, none⟩)) ∧ W.cell? ⟨zp, 2, none⟩ = some (.pointer (some ⟨g, 0, none⟩)) ∧ W.cell? ⟨zp, 6, none⟩ = some (.pointer (some ⟨tp, 0, none⟩)) ∧ W.cell? ⟨zp, 8, none⟩ = some (.pointer (some ⟨v, 0, none⟩))) (by kernel_rfl) (by exact ⟨trivial, HCd.out⟩) (fun hHeld => ?_)
   refine tK 0 80 rfl ?_
   try simp only [Act.put, pA, pB, pC]
   refine tK 1 81 rfl ?_
   try simp only [Act.put, pA, pB, pC]
   refine tK 2 82 rfl ?_
   try simp only [Act.put, pA, pB, pC]
   refine tK 3 83 rfl ?_
   try simp only [Act.put, pA, pB, pC]
   refine tK 5 85 rfl ?_
   try simp only [Act.put, pA, pB, pC]
   refine tK 6 86 rfl ?_
   try simp only [Act.put, pA, pB, pC]
   refine tK 7 87 rfl ?_
   try simp only [Act.put, pA, pB, pC]
   refine tK 8 88 rfl ?_
   try simp only [Act.put, pA, pB, pC]
   refine hO 4 (some 84) rfl fun K hK => ?_
   go_simp
   refine (waiting_any v d g tp _ _ _ _ aPs _ _ _ HLd.out.ws.at_).mono ?_
   rintro e' wa ⟨rfl, rfl⟩
   rw [h6a]
   refine hK.out _ _ (by exact hHeld) (fun hHeld => ?_)
   clear hK K
   try simp only [Act.put, pA, pB, pC]
   refine hO 9 (some 89) rfl fun K hK => ?_
   go_simp
   refine (held_at d F2 D0 _ HLd.out.ws.vd).mono ?_
   rintro e' wa ⟨rfl, rfl⟩
   rw [HD0.out.1]
   refine hK.out _ _ (by exact hHeld) (fun hHeld => ?_)
   clear hK K
   try simp only [Act.put, pA, pB, pC]
   refine tK 10 7 rfl ?_
   try simp only [Act.put, pA, pB, pC]
   refine tK 11 8 rfl ?_
   try simp only [Act.put, pA, pB, pC]
   refine wpAnyH_done (by kernel_rfl) ?_ _
   refine NoPanic.normal ?_
   obtain ⟨wd, hwd⟩ : ∃ wd, wr.drew = wd := ⟨_, rfl⟩
   rw [hwd] at HLd HCd ⊢
   clear hwd hHeld
   obtain ⟨pt0, pt2, pt6, pt8⟩ := HCd.out
   have HRD := hide (read_held w0.heap.size v d g tp V F2 8 8 24 r q D0 T0 aPs (aIts 6) (aBl 6) A c H e wd 5 HLd.out.ws (by rw [aIts_count 6 (by omega)]; omega))
   rw [HF.out, aBl_last 5] at HRD
   have hat5 : aAt f 6 = f + ((5 : Nat) : Int) := rfl
   rw [hat5]
   clear hat5
   go_wp2_with fail
   refine HRD.out.mono ?_
   rintro e' wa ⟨⟨A1, c1, rfl, hfr⟩, hka⟩
   have HLa := hide (HLd.out.keep hka)
   have HFR := hide hfr
   have hsd := HLd.out.kept.size
   have HLT := hide HLd.out.lt
   clear hfr hka HLd HCd pt0 pt2 pt6 pt8 HRD
   obtain ⟨pt0, pt2, pt6, pt8⟩ := HLa.out.ptr
   have hib : ¬ addOk ⟨7, 0, 0, 0⟩ 0 := by decide
   go_wp2_with fail
   refine (add_bad w0.heap.size v d g tp V F2 8 8 24 r q D0 T0 aPs (aIts 6) (aBl 6) A c H e ⟨7, 0, 0, 0⟩ none 0 0 false wa HLa.out.ws hib).mono ?_
   rintro e' wb ⟨rfl, hkb⟩
   have HLb := hide (HLa.out.keep hkb)
   have HV2 := hide ((HFR.out.2.2.2 (ours v V F2 A (aIts 6).length c H (aBl 6).length e) HLT.out).kept hkb (by simp))
   clear hkb pt0 pt2 pt6 pt8 hib HLa HLT
   obtain ⟨pt0, pt2, pt6, pt8⟩ := HLb.out.ptr
   have hof1 : offOf aPs = 1 := rfl
   have hne6 : aIts 6 ≠ [] := fun hh => by rw [hh] at h6a; cases h6a
   have HEM := hide (HLb.out.add_emit ⟨3, 0, 0, 1⟩ none 0 0 [] false (by decide) rfl (fun hh => by have := hh.1; omega) (by unfold fit2; rw [hof1, aIts_count 6 (by omega), show ldOf ⟨3, 0, 0, 1⟩ = 0 from by decide]; omega) (by rw [HD0.out.2]; omega) (by decide) (Vals.nil _ _ _))
   rw [show heldAt r q 24 (allP aPs (aIts 6) (aBl 6)) [] ⟨3, 0, 0, 1⟩ = 0 from if_neg (by decide)] at HEM
   have HHE := hide (show (allD D0 (2 + 2 * r + 4 * q + aPs.s * 24) aPs (aIts 6) (aBl 6)).held.length = 8 from by
    unfold allD
    rw [if_neg hne6, emit_held HLb.out.ws.pl hne6 (by omega) ⟨by have := HGB.out; omega, by have := HGB.out; omega⟩ (by omega) (by rw [HD0.out.2]; omega) (by decide), HD0.out.1, aIts_count 6 (by omega)]
    rfl)
   have HPO := hide (show (allP aPs (aIts 6) (aBl 6)).o = 8 from by
    unfold allP
    rw [if_neg hne6]
    show offOf aPs + (1 + (record.count (aIts 6) : Int)) = 8
    rw [aIts_count 6 (by omega), hof1]
    rfl)
   obtain ⟨D1, hD1⟩ : ∃ D1, allD D0 (2 + 2 * r + 4 * q + aPs.s * 24) aPs (aIts 6) (aBl 6) = D1 := ⟨_, rfl⟩
   obtain ⟨p1, hp1⟩ : ∃ p1, allP aPs (aIts 6) (aBl 6) = p1 := ⟨_, rfl⟩
   rw [hD1, hp1] at HEM
   rw [hD1] at HHE
   rw [hp1] at HPO
   clear hof1 hne6 hD1 hp1
   go_wp2_with fail
   refine HEM.out.mono ?_
   rintro e' wc ⟨rfl, F4, A4, c4, H4, e4, hlc, hkc⟩
   have HLc := hide hlc
   have HVc := hide ((HV2.out.kept hkc (fun j hj => hj)).mono (S' := []) (by simp))
   clear hlc hkc pt0 pt2 pt6 pt8 HEM HV2 HLb h6a
   go_wp2_with fail
   refine (fill_any 5 _).mono ?_
   rintro e' we ⟨gf, rfl, hgf, harr, hke⟩
   have HLe := hide (HLc.out.keep hke)
   have HVe := hide (HVc.out.kept hke (by simp))
   have HVf := hide (harr.vals (S := []) (by simp))
   clear hgf harr hke HLc HVc
   go_wp2_with fail
   refine (bytes_any A1 (some ⟨gf, 0, none⟩) 64 64 c1 64 (fillOf 5) (fillOf 5) _ (fillOf_length _) (fillOf_length _) HVe.out HVf.out (by omega)).mono ?_
   rintro e' wf ⟨rfl, k0, rfl⟩
   have hkd := (Kept.refl [] we).drewN k0
   obtain ⟨wg, hwg⟩ : ∃ wg, we.drewN k0 = wg := ⟨_, rfl⟩
   rw [hwg] at hkd ⊢
   have HLg := hide (HLe.out.keep hkd)
   rw [decide_eq_true (rfl : fillOf 5 = fillOf 5)]
   clear hkd hwg HLe HVe HVf
   obtain ⟨pt0, pt2, pt6, pt8⟩ := HLg.out.ptr
   have hseg : segAt 8 24 r q 0 = f - 2 := by
    rw [← HF.out, segIn (by omega)]
    unfold fstAt aPs offOf
    simp
    omega
   have hw5 : IntKind.i64.wrap (f - 2 + 7) = f + 5 := by rw [IntWalk.i64_in _ (by have := HFB.out; omega)]; omega
   go_wp2_with fail
   refine (seg_any g 8 8 24 r q 0 _ HLg.out.ws.geo).mono ?_
   rintro e' wh ⟨rfl, hkh⟩
   rw [hseg]
   have HLh := hide (HLg.out.keep hkh)
   clear hkh HLg pt0 pt2 pt6 pt8 hseg
   obtain ⟨pt0, pt2, pt6, pt8⟩ := HLh.out.ptr
   go_wp2_with fail
   refine (held_at d F4 D1 _ HLh.out.ws.vd).mono ?_
   rintro e' wi ⟨rfl, rfl⟩
   rw [HHE.out]
   have hfo := fun W => field_o p1.s p1.o p1.l p1.v p1.m W
   rw [HPO.out] at hfo
   have HPS := hide (pos_any v d g tp _ _ _ _ p1 _ _ wh HLh.out.ws.at_)
   unfold Ps.val at HPS
   rw [HPO.out] at HPS
   go_wp2_with fail
   refine HPS.out.mono ?_
   rintro e' wj ⟨rfl, hkj⟩
   have HLj := hide (HLh.out.keep hkj)
   clear hkj HLh pt0 pt2 pt6 pt8 HPS
   go_wp2_with fail
   refine (waiting_nil _).mono ?_
   rintro e' wk ⟨rfl, rfl⟩
   go_wp2
   go_ret
   exact ⟨rfl, HK0.out.trans HLj.out.kept (by simp)⟩
end Go.Proofs.YtolbalafhfpjbaaGreat.wr

namespace Go.Proofs.YtolbalafhfpjbaaGreat.wr
open Go.RowKit mem base disk owns geom
open sc (Ps Seal sealed Reads putk)
open us (Rw TAt RAt upd grabOf shutOf touchOf inState backOf isNum)
open item (It Items valsOf allMay)
def sts (T : List Rw) : List Int := T.map Rw.s
def inS (L : List Int) (st : Int) (k : Nat) : List Int := ((List.range k).filter fun i : Nat => decide ((L[i]?).getD 0 = st)).map fun i : Nat => (i : Int)
theorem inState_sts (T : List Rw) (st : Int) (k : Nat) : inState T st k = inS (sts T) st k := by
 unfold inState inS
 have h : ∀ i : Nat, (us.rowAt T (i : Int)).s = ((sts T)[i]?).getD 0 := fun i => by
  unfold us.rowAt sts
  rw [if_pos (by omega), Int.toNat_natCast, List.getElem?_map]
  cases T[i]? <;> rfl
 simp only [h]
theorem sts_upd (T : List Rw) (i : Nat) (f : Rw → Rw) (g : Int → Int) (h : ∀ x, (f x).s = g x.s) : sts (upd T (i : Int) f) = (sts T).modify i g := by
 unfold upd sts
 by_cases hi : i < T.length
 ·rw [if_pos ⟨by omega, by omega⟩]
  apply List.ext_getElem?
  intro j
  rw [List.getElem?_map, List.getElem?_modify, List.getElem?_map, Int.toNat_natCast, List.getElem?_set]
  by_cases hj : i = j
  ·subst hj
   simp [hi, h, us.rowAt_yes (List.getElem?_eq_getElem hi), List.getElem?_eq_getElem hi]
  ·simp [hj]
 ·rw [if_neg (by omega), List.modify_eq_self (by rw [List.length_map]; omega)]
theorem sts_touch (T : List Rw) (i : Nat) (n : Int) : sts (touchOf T (i : Int) n) = sts T := by
 unfold touchOf
 split
 ·exact (sts_upd T i (fun x => ⟨x.s, n, x.n⟩) id (fun _ => rfl)).trans (by simp)
 ·rfl
theorem sts_grab (T : List Rw) (i : Nat) : sts (grabOf T (i : Int)) = (sts T).modify i (fun s => if s = 0 then 1 else s) := sts_upd T i _ _ (fun x => by unfold Rw.grab; split <;> simp_all)
theorem sts_shut (T : List Rw) (i : Nat) : sts (shutOf T (i : Int)) = (sts T).modify i (fun s => if s = 1 then 2 else s) := sts_upd T i _ _ (fun x => by unfold Rw.shut; split <;> simp_all)
def sp5 : List Int := [1, 2, 2, 2, 2, 2, 0, 0]
structure Sp (k a : Nat) (D : Dk) (T : List Rw) (p : Ps) (its : List It) : Prop where
 seg : p.s = 0
 off : 0 ≤ p.o
 all : record.count its = its.length
 far : (k : Int) + 1 ≤ offOf p + its.length
 acts : D.acts ≤ 8 * a
 lsn : 1 ≤ p.l ∧ p.l ≤ 1 + a
 sts : sts T = sp5
theorem Sp.le {k a : Nat} {r q : Int} {D : Dk} {T : List Rw} {p : Ps} {its : List It} {bl : List UInt8} (h : Sp k a D T p its) (hp : Pl 8 24 r q p its bl D) : k ≤ 22 := by
 have h1 := h.far
 have h2 := h.all
 have h3 := offOf_le h.off
 have h4 := hp.off
 by_cases hne : its = []
 ·subst hne
  simp at h1
  omega
 ·have h5 := hp.room hne
  omega
theorem Sp.free {k a : Nat} {D : Dk} {T : List Rw} {p : Ps} {its : List It} (h : Sp k a D T p its) : T.length = 8 ∧ inState T 0 T.length = [6, 7] := by
 have h1 : T.length = 8 := by have := congrArg List.length h.sts; unfold wr.sts at this; rw [List.length_map] at this; exact this
 refine ⟨h1, ?_⟩
 rw [h1, inState_sts, h.sts]
 decide
theorem count_snoc (its : List It) (i : It) (h : i.loaded = true) : record.count (its ++ [i]) = record.count its + 1 := by
 unfold record.count
 rw [List.filter_append, List.length_append]
 simp [h]
theorem Sp.add {k a : Nat} {D : Dk} {T : List Rw} {p : Ps} {its : List It} {i : It} (h : Sp k a D T p its) (hi : i.loaded = true) : Sp (k + 1) (a + 1) D T p (its ++ [i]) := by
 have h1 := h.far
 have h2 := h.acts
 have h3 := h.lsn
 exact ⟨h.seg, h.off, by rw [count_snoc its i hi, h.all]; simp, by rw [List.length_append]; simp; omega, by omega, by omega, h.sts⟩
theorem Sp.emit {k a : Nat} {r q : Int} {D : Dk} {T : List Rw} {p : Ps} {its : List It} {bl : List UInt8} (h : Sp k a D T p its) (hp : Pl 8 24 r q p its bl D) (h0 : 0 ≤ r ∧ 0 ≤ q) (ha : a ≤ 1000) :
  Sp k (a + 1) (allD D (2 + 2 * r + 4 * q + p.s * 24) p its bl) (allT T p its) (allP p its bl) [] := by
 have h3 := offOf_le h.off
 have hk := h.le hp
 have hac := h.acts
 have hl := h.lsn
 have hc := h.all
 have hf := h.far
 by_cases hne : its = []
 ·subst hne
  unfold allD allT allP
  rw [if_pos rfl, if_pos rfl, if_pos rfl]
  exact ⟨h.seg, h.off, rfl, hf, by omega, by omega, h.sts⟩
 obtain ⟨_, _, e3, _⟩ := emit_pl hp hne (by omega) h0 (by omega) (by omega) (by omega)
 unfold allP allD allT
 rw [if_neg hne, if_neg hne, if_neg hne]
 refine ⟨h.seg, ?_, rfl, ?_, by omega, ?_, ?_⟩
 ·show 0 ≤ offOf p + (1 + (record.count its : Int)); omega
 ·show (k : Int) + 1 ≤ offOf ⟨p.s, offOf p + (1 + (record.count its : Int)), _, _, _⟩ + (0 : Nat)
  have := offOf_le (p := ⟨p.s, offOf p + (1 + (record.count its : Int)), p.l + 1, ((recAt (atOf p) its bl (record.count its)).sum : Int), p.m⟩) (by show 0 ≤ offOf p + (1 + (record.count its : Int)); omega)
  have h5 : offOf p + (1 + (record.count its : Int)) ≤ offOf ⟨p.s, offOf p + (1 + (record.count its : Int)), p.l + 1, ((recAt (atOf p) its bl (record.count its)).sum : Int), p.m⟩ := this.2.1
  omega
 ·show 1 ≤ p.l + 1 ∧ p.l + 1 ≤ 1 + ((a + 1 : Nat) : Int); omega
 ·rw [h.seg, show (0 : Int) = ((0 : Nat) : Int) from rfl, sts_touch]
  exact h.sts
theorem Sp.turn {k a : Nat} {r q : Int} {D : Dk} {T : List Rw} {p : Ps} {its : List It} {bl : List UInt8} {i : It} (h : Sp k a D T p its) (hp : Pl 8 24 r q p its bl D) (h0 : 0 ≤ r ∧ 0 ≤ q) (ha : a ≤ 1000) (hi : i.loaded = true) (hn : ¬ fit1 24 p its i) (hn2 : ¬ fit2 24 p its i) :
  inState (allT T p its) 0 (allT T p its).length = [6, 7] ∧ 1 ≤ (allP p its bl).o ∧ (shutOf (touchOf (grabOf (allT T p its) 6) (allP p its bl).s (allP p its bl).l) (allP p its bl).s).length = 8 ∧ inState (shutOf (touchOf (grabOf (allT T p its) 6) (allP p its bl).s (allP p its bl).l) (allP p its bl).s) 0 8 = [7] := by
 have he := h.emit hp h0 ha
 have h3 := offOf_le h.off
 have hs : wr.sts (shutOf (touchOf (grabOf (allT T p its) 6) (allP p its bl).s (allP p its bl).l) (allP p its bl).s) = [2, 2, 2, 2, 2, 2, 1, 0] := by
  rw [he.seg, show (0 : Int) = ((0 : Nat) : Int) from rfl, sts_shut, sts_touch, show (6 : Int) = ((6 : Nat) : Int) from rfl, sts_grab, he.sts]
  decide
 refine ⟨he.free.2, ?_, ?_, ?_⟩
 ·unfold allP
  split
  ·rename_i hh
   subst hh
   unfold fit2 ldOf at hn2
   rw [if_pos hi] at hn2
   simp only [record.count, List.filter_nil, List.length_nil] at hn2
   omega
  ·show 1 ≤ offOf p + (1 + (record.count its : Int)); omega
 ·have := congrArg List.length hs; unfold wr.sts at this; rw [List.length_map] at this; exact this
 ·rw [inState_sts, hs]
  decide
section
variable {w W : World} {zp v d g tp V rd rt : Nat} {xp : Option Addr} {b s l r q : Int} {D : Dk} {T : List Rw} {p : Ps} {its : List It} {bl : List UInt8} {F : List Nat} {A : Option Addr} {c : Nat} {H : Option Addr} {e : Nat} (i : It) (Bp : Option Addr) (nb cb : Nat) (bb : List UInt8) (spare : Bool)
theorem Lwr.emit (h : Lwr w W zp v d g tp V rd rt xp b s l r q D T p its bl F A c H e) (hac : D.acts ≤ 700000) (hln : p.l ≤ 1900000000) :
  Calls Tryz.prog 44 #[.pointer (some ⟨v, 0, none⟩)] W fun ex W' => ex = .returned (.int .i64 0) ∧ ∃ F' A' c' H' e', Lwr w W' zp v d g tp V rd rt xp b s l r q (allD D (2 + 2 * r + 4 * q + p.s * l) p its bl) (allT T p its) (allP p its bl) [] [] F' A' c' H' e' ∧ Kept (ours v V F A its.length c H bl.length e) W W' :=
 (emit_all w.heap.size v d g tp V F b s l r q D T p its bl A c H e W h.ws hac hln).mono fun ex W' ⟨he, F', A', c', H', e', h1, h2, h3, h4, h5⟩ =>
  ⟨he, h.step ⟨F', A', c', H', e', h1, h2, h3.mono (fun j hj => by simp at hj ⊢; rcases hj with hj | hj | hj <;> simp [hj]), fun j hj => .inl (h4 j hj), fun j hj => .inl (h5 j hj)⟩⟩
end
end Go.Proofs.YtolbalafhfpjbaaGreat.wr
