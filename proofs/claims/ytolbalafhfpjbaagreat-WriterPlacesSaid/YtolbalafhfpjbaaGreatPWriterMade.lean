import Derived.Test.YtolbalafhfpjbaaGreatPWriterRMay
import Derived.Test.YtolbalafhfpjbaaGreatPUsageNew
import Derived.Test.YtolbalafhfpjbaaGreatPUsageRefE
import Derived.Test.YtolbalafhfpjbaaGreatPRDiskCore
import Derived.Test.YtolbalafhfpjbaaGreatPHeldX
namespace Go.Proofs.YtolbalafhfpjbaaGreat.wr
set_option linter.unusedSimpArgs false
set_option linter.unusedVariables false
open Go.RowKit mem base disk owns geom
open sc (Ps Seal sealed)
open us (Rw TAt RAt grabOf shutOf)
open record (cell5)
structure Mst (w W : World) (m m2 z zp d rd g tp V rt U L : Nat) (F G : List Nat) (n : Nat) (b s l r q : Int) (p : Ps) (T T2 : List Rw) (vp xp : Option Addr) : Prop where
 geo : GAt W g b s l r q
 pr : Pr w W F d (Dk.new n) G rd (Dk.new n)
 tab : TAt W tp V b s l r q T
 rtab : RAt W rt U L b s l r q T2
 blk : Blk W zp 82 #[.pointer (some ⟨d, 0, none⟩), .pointer (some ⟨rd, 0, none⟩), .pointer (some ⟨g, 0, none⟩), .int .i64 b, .int .i64 s, .int .i64 l, .pointer (some ⟨tp, 0, none⟩), .pointer (some ⟨rt, 0, none⟩), .pointer vp, .pointer xp]
 cfg : Blk W z 29 #[.int .i64 b, .int .i64 s, .int .i64 l]
 pos : Blk W (z + 1) 24 #[.int .i64 p.s, .int .i64 p.o, .int .i64 p.l, .int .i64 p.v, .int .i64 p.m]
 ord : w.heap.size = z ∧ z + 1 < g ∧ g < m ∧ (∀ x ∈ F ++ G, g < x ∧ x < m) ∧ (m ≤ tp ∧ m ≤ V ∧ tp < m2 ∧ V < m2) ∧ (m2 ≤ rt ∧ m2 ≤ U ∧ m2 ≤ L ∧ rt < zp ∧ U < zp ∧ L < zp)
section
variable {w W W' : World} {m m2 z zp d rd g tp V rt U L : Nat} {F G : List Nat} {n : Nat} {b s l r q : Int} {p : Ps} {T T2 : List Rw} {vp xp : Option Addr}
theorem Mst.keep (h : Mst w W m m2 z zp d rd g tp V rt U L F G n b s l r q p T T2 vp xp) (k : Kept [] W W') : Mst w W' m m2 z zp d rd g tp V rt U L F G n b s l r q p T T2 vp xp :=
 ⟨h.geo.kept k, h.pr.kept k, h.tab.keep k, h.rtab.keep k, k.blk h.blk (by simp), k.blk h.cfg (by simp), k.blk h.pos (by simp), h.ord⟩
theorem Mst.cells (h : Mst w W m m2 z zp d rd g tp V rt U L F G n b s l r q p T T2 vp xp) : W.cell? ⟨zp, 6, none⟩ = some (.pointer (some ⟨tp, 0, none⟩)) ∧ W.cell? ⟨zp, 7, none⟩ = some (.pointer (some ⟨rt, 0, none⟩)) ∧
  (W.cell? ⟨z, 0, none⟩ = some (.int .i64 b) ∧ W.cell? ⟨z, 1, none⟩ = some (.int .i64 s) ∧ W.cell? ⟨z, 2, none⟩ = some (.int .i64 l)) ∧
  (W.cell? ⟨z + 1, 0, none⟩ = some (.int .i64 p.s) ∧ W.cell? ⟨z + 1, 1, none⟩ = some (.int .i64 p.o) ∧ W.cell? ⟨z + 1, 2, none⟩ = some (.int .i64 p.l) ∧ W.cell? ⟨z + 1, 3, none⟩ = some (.int .i64 p.v) ∧ W.cell? ⟨z + 1, 4, none⟩ = some (.int .i64 p.m)) :=
 ⟨h.blk.cell 6, h.blk.cell 7, ⟨h.cfg.cell 0, h.cfg.cell 1, h.cfg.cell 2⟩, cell5 h.pos⟩
theorem Mst.far {S : List Nat} (h : Mst w W m m2 z zp d rd g tp V rt U L F G n b s l r q p T T2 vp xp) (k : Kept S W W') (hs : ∀ x ∈ S, m ≤ x) : GAt W' g b s l r q ∧ Pr w W' F d (Dk.new n) G rd (Dk.new n) ∧ Blk W' z 29 #[.int .i64 b, .int .i64 s, .int .i64 l] ∧ Blk W' (z + 1) 24 #[.int .i64 p.s, .int .i64 p.o, .int .i64 p.l, .int .i64 p.v, .int .i64 p.m] := by
 obtain ⟨h1, h2, h3, h4, h5, h6⟩ := h.ord
 refine ⟨h.geo.kept k (fun hm => by have := hs _ hm; omega), h.pr.far k (fun x hx hm => by have := hs _ hm; have := h4 x (by simp [hx]); omega) (fun x hx hm => by have := hs _ hm; have := h4 x (by simp [hx]); omega) (fun x hx => by have := hs x hx; omega), k.blk h.cfg (fun hm => by have := hs _ hm; omega), k.blk h.pos (fun hm => by have := hs _ hm; omega)⟩
theorem Mst.tabs {T' : List Rw} (h : Mst w W m m2 z zp d rd g tp V rt U L F G n b s l r q p T T2 vp xp) (ht : TAt W' tp V b s l r q T') (k : Kept [V] W W') : Mst w W' m m2 z zp d rd g tp V rt U L F G n b s l r q p T' T2 vp xp := by
 obtain ⟨h1, h2, h3, h4⟩ := h.far k (fun x hx => by have := h.ord; simp at hx; omega)
 have o := h.ord
 exact ⟨h1, h2, ht, h.rtab.kept k (by simp; omega) (by simp; omega) (by simp; omega), k.blk h.blk (by simp; omega), h3, h4, h.ord⟩
theorem Mst.rtabs {T' : List Rw} (h : Mst w W m m2 z zp d rd g tp V rt U L F G n b s l r q p T T2 vp xp) (ht : RAt W' rt U L b s l r q T') (k : Kept [U, L] W W') : Mst w W' m m2 z zp d rd g tp V rt U L F G n b s l r q p T T' vp xp := by
 obtain ⟨h1, h2, h3, h4⟩ := h.far k (fun x hx => by have := h.ord; simp at hx; omega)
 have o := h.ord
 exact ⟨h1, h2, h.tab.kept k (by simp; omega) (by simp; omega), ht, k.blk h.blk (by simp; omega), h3, h4, h.ord⟩
theorem Mst.setW (h : Mst w W m m2 z zp d rd g tp V rt U L F G n b s l r q p T T2 vp xp) (a : Option Addr) : Mst w (W.setCell ⟨zp, 8, none⟩ (.pointer a)) m m2 z zp d rd g tp V rt U L F G n b s l r q p T T2 a xp ∧ Kept [zp] W (W.setCell ⟨zp, 8, none⟩ (.pointer a)) := by
 have k : Kept [zp] W (W.setCell ⟨zp, 8, none⟩ (.pointer a)) := (Kept.refl [zp] W).set_ (b := zp) (.inl (by simp)) 8 _
 obtain ⟨h1, h2, h3, h4⟩ := h.far k (fun x hx => by have := h.ord; simp at hx; omega)
 have o := h.ord
 exact ⟨⟨h1, h2, h.tab.kept k (by simp; omega) (by simp; omega), h.rtab.kept k (by simp; omega) (by simp; omega) (by simp; omega), Blk.set_ h.blk 8 _, h3, h4, h.ord⟩, k⟩
theorem Mst.setX (h : Mst w W m m2 z zp d rd g tp V rt U L F G n b s l r q p T T2 vp xp) (a : Option Addr) : Mst w (W.setCell ⟨zp, 9, none⟩ (.pointer a)) m m2 z zp d rd g tp V rt U L F G n b s l r q p T T2 vp a ∧ Kept [zp] W (W.setCell ⟨zp, 9, none⟩ (.pointer a)) := by
 have k : Kept [zp] W (W.setCell ⟨zp, 9, none⟩ (.pointer a)) := (Kept.refl [zp] W).set_ (b := zp) (.inl (by simp)) 9 _
 obtain ⟨h1, h2, h3, h4⟩ := h.far k (fun x hx => by have := h.ord; simp at hx; omega)
 have o := h.ord
 exact ⟨⟨h1, h2, h.tab.kept k (by simp; omega) (by simp; omega), h.rtab.kept k (by simp; omega) (by simp; omega) (by simp; omega), Blk.set_ h.blk 9 _, h3, h4, h.ord⟩, k⟩
end
theorem wnew_one (d g tp : Nat) (b s l r q : Int) (p : Ps) (w : World) (hg : GAt w g b s l r q) :
  Calls Tryz.prog 92 #[.pointer (some ⟨d, 0, none⟩), .pointer (some ⟨g, 0, none⟩), .pointer (some ⟨tp, 0, none⟩), p.val] w fun e w' => ∃ vp, e = .returned (.pointer vp) ∧ Kept [] w w' ∧
   ((placeOk s l p ∧ ∃ v, vp = some ⟨v, 0, none⟩ ∧ w.heap.size ≤ v ∧ WAt w' v d g tp p none 0 0 none 0 0) ∨ (¬ placeOk s l p ∧ vp = none)) :=
 (wnew_any d g tp b s l r q p w hg).mono fun e w' h => h.elim (fun ⟨h1, v, h2, h3, h4, h5⟩ => ⟨_, h2, h5, .inl ⟨h1, v, rfl, h3, h4⟩⟩) (fun ⟨h1, h2, h3⟩ => ⟨_, h2, h3, .inr ⟨h1, rfl⟩⟩)
theorem rwnew_one (d tp : Nat) (b s l : Int) (p : Ps) (w : World) (hs : 1 ≤ s ∧ s ≤ 1000) (hl : 1 ≤ l ∧ l ≤ 1000) :
  Calls Tryz.prog 101 #[.pointer (some ⟨d, 0, none⟩), .agg #[.int .i64 b, .int .i64 s, .int .i64 l], .pointer (some ⟨tp, 0, none⟩), p.val] w fun e w' => ∃ vp, e = .returned (.pointer vp) ∧ Kept [] w w' ∧
   ((placeOk s l p ∧ ∃ v, vp = some ⟨v, 0, none⟩ ∧ w.heap.size ≤ v ∧ RWAt w' v d tp b s l p none 0 0 none 0 0) ∨ (¬ placeOk s l p ∧ vp = none)) :=
 (rwnew_any d tp b s l p w hs hl).mono fun e w' ⟨k, h⟩ => h.elim (fun ⟨h1, v, h2, h3, h4⟩ => ⟨_, h2, k, .inl ⟨h1, v, rfl, h3, h4⟩⟩) (fun ⟨h1, h2⟩ => ⟨_, h2, k, .inr ⟨h1, rfl⟩⟩)
def busy1 (s : Int) (p : Ps) (T : List Rw) (k : Int) : List Rw := if k % s = p.s then grabOf T (k % s) else shutOf (grabOf T (k % s)) (k % s)
def busyT (s : Int) (p : Ps) (ks : List Int) : List Rw := ks.foldl (busy1 s p) (grabOf (List.replicate s.toNat Rw.zero) (p.s % s))
theorem busyT_snoc (s : Int) (p : Ps) (ks : List Int) (k : Nat) (x : Int) (h : ks[k]? = some x) : busyT s p (ks.take (k + 1)) = busy1 s p (busyT s p (ks.take k)) x := by
 unfold busyT
 rw [List.take_add_one, h, List.foldl_append]
 rfl
set_option maxRecDepth 100000 in
set_option maxHeartbeats 4000000 in
theorem made_any (b s l : Int) (p : Ps) (Bp : Option Addr) (nb cb : Nat) (ks : List Int) (w : World) (h : geom.Ok b s l) (hv : Vals w [] Bp (ks.map I)) (hl : ks.length = nb) (hn : nb ≤ 100000) :
  Calls Tryz.prog 40 #[.agg #[.int .i64 b, .int .i64 s, .int .i64 l], p.val, .slice Bp nb cb] w fun e w' => ∃ m m2 z zp d rd g tp V rt U L F G n r q vp xp, e = .returned (.tuple #[.pointer (some ⟨zp, 0, none⟩), .bool true]) ∧
   Mst w w' m m2 z zp d rd g tp V rt U L F G n b s l r q p (busyT s p ks) (busyT s p ks) vp xp ∧ (n : Int) = 2 + 2 * r + 4 * q + s * l ∧ Kept [] w w' ∧
   ((placeOk s l p ∧ ∃ v x, vp = some ⟨v, 0, none⟩ ∧ xp = some ⟨x, 0, none⟩ ∧ zp < v ∧ v < x ∧ WAt w' v d g tp p none 0 0 none 0 0 ∧ RWAt w' x rd rt b s l p none 0 0 none 0 0) ∨ (¬ placeOk s l p ∧ vp = none ∧ xp = none)) := by
 obtain ⟨z, hz⟩ : ∃ z, w.heap.size = z := ⟨_, rfl⟩
 obtain ⟨w0, hw0⟩ : ∃ w0, (w.alloc (.cells #[.int .i64 b, .int .i64 s, .int .i64 l] 29)).alloc (.cells #[.int .i64 p.s, .int .i64 p.o, .int .i64 p.l, .int .i64 p.v, .int .i64 p.m] 24) = w0 := ⟨_, rfl⟩
 have hk0 : Kept [] w w0 := by rw [← hw0]; exact ((Kept.refl [] w).alloc _).alloc _
 have hb0 : Blk w0 z 29 #[.int .i64 b, .int .i64 s, .int .i64 l] := by rw [← hw0, ← hz]; exact (Blk.new w _ _).alloc _
 have hb1 : Blk w0 (z + 1) 24 #[.int .i64 p.s, .int .i64 p.o, .int .i64 p.l, .int .i64 p.v, .int .i64 p.m] := by
  rw [← hw0, ← hz]
  have := Blk.new (w.alloc (.cells #[.int .i64 b, .int .i64 s, .int .i64 l] 29)) 24 #[.int .i64 p.s, .int .i64 p.o, .int .i64 p.l, .int .i64 p.v, .int .i64 p.m]
  rw [World.size_alloc] at this
  exact this
 obtain ⟨c0, c1, c2⟩ : w0.cell? ⟨z, 0, none⟩ = some (.int .i64 b) ∧ w0.cell? ⟨z, 1, none⟩ = some (.int .i64 s) ∧ w0.cell? ⟨z, 2, none⟩ = some (.int .i64 l) := ⟨hb0.cell 0, hb0.cell 1, hb0.cell 2⟩
 have HK := hide hk0
 have HB0 := hide hb0
 have HB1 := hide hb1
 have HOK := hide h
 have HV := hide hv
 have HL := hide hl
 have HNB := hide hn
 have HZ := hide hz
 clear hk0 hb0 hb1 h hv hl
 unfold Ps.val
 go_enter Tryz.func40, Tryz.ntmps40
 go_wp2_with fail
 refine (geom.new_yes b s l _ HOK.out).mono ?_
 rintro e w2 ⟨g, r, q, rfl, hg, hge, hk2⟩
 have HG := hide hg
 have HGE := hide (show z + 1 < g from by have := HB1.out.lt; omega)
 have HK2 := hide (HK.out.trans hk2 (by simp))
 have HB02 := hide (hk2.blk HB0.out (by simp))
 have HB12 := hide (hk2.blk HB1.out (by simp))
 obtain ⟨d0, d1, d2⟩ : w2.cell? ⟨z, 0, none⟩ = some (.int .i64 b) ∧ w2.cell? ⟨z, 1, none⟩ = some (.int .i64 s) ∧ w2.cell? ⟨z, 2, none⟩ = some (.int .i64 l) := ⟨HB02.out.cell 0, HB02.out.cell 1, HB02.out.cell 2⟩
 clear c0 c1 c2 hg hge hk2
 go_wp2_with fail
 refine (geom.rsectors b s l r q _ HG.out.rf).mono ?_
 rintro e w3 ⟨rfl, hk3⟩
 have hbd := HG.out.bounds
 have hok := HG.out.ok
 unfold geom.Ok at hok
 have hm := geom.mul_le (i := s) (s := s) (l := l) (by omega) (by omega) (by omega) (by omega) (by omega)
 obtain ⟨n, hn⟩ : ∃ n : Nat, (n : Int) = 2 + 2 * r + 4 * q + s * l := ⟨(2 + 2 * r + 4 * q + s * l).toNat, by omega⟩
 have hn1 : 1 ≤ n ∧ n ≤ 4096 := by omega
 have HSB := hide (show 8 ≤ s ∧ s ≤ 32 ∧ 1 ≤ l ∧ l ≤ 1000 by omega)
 have HN := hide hn
 have HG3 := hide (HG.out.kept hk3)
 have HK3 := hide (HK2.out.trans hk3 (by simp))
 have HB03 := hide (hk3.blk HB02.out (by simp))
 have HB13 := hide (hk3.blk HB12.out (by simp))
 rw [← hn]
 clear hbd hok hm hn hk3 d0 d1 d2
 go_wp2_with fail
 refine (two_at (n : Int) n rfl _ hn1.1 hn1.2).mono ?_
 rintro e w4 ⟨F, d, G, rd, rfl, hpr⟩
 have HPR := hide hpr
 have hk34 := hpr.a.2.2
 have HG4 := hide (HG3.out.kept hk34)
 have HB04 := hide (hk34.blk HB03.out (by simp))
 have HB14 := hide (hk34.blk HB13.out (by simp))
 have HK4 := hide (HK3.out.trans hk34 (by simp))
 have HFG := hide (show ∀ x ∈ F ++ G, g < x ∧ x < w4.heap.size from by
  intro x hx
  have := HG3.out.lt
  rcases List.mem_append.1 hx with hx | hx
  ·have := hpr.a.2.1 x hx; have := hpr.a.1.lt x hx; omega
  ·have := hpr.new x hx; have := hpr.b.lt x hx; omega)
 have HCC := hide (show ∀ W, Kept [] w4 W → W.cell? ⟨z, 0, none⟩ = some (.int .i64 b) ∧ W.cell? ⟨z, 1, none⟩ = some (.int .i64 s) ∧ W.cell? ⟨z, 2, none⟩ = some (.int .i64 l) from fun W k => by
  have hb := k.blk HB04.out (by simp)
  exact ⟨hb.cell 0, hb.cell 1, hb.cell 2⟩)
 clear hpr hk34 hn1
 go_wp2
 refine wp_region_noPanic ?_
 refine wp_region_held_drew (S := fun W => Kept [] w4 W ∧ (W.cell? ⟨z, 0, none⟩ = some (.int .i64 b) ∧ W.cell? ⟨z, 1, none⟩ = some (.int .i64 s) ∧ W.cell? ⟨z, 2, none⟩ = some (.int .i64 l))) (by kernel_rfl) (by exact ⟨(Kept.refl [] w4).drew, HCC.out _ ((Kept.refl [] w4).drew)⟩) (fun hHeld => ?_)
 refine tK 0 38 rfl ?_
 try simp only [Act.put, pA, pB, pC]
 refine tK 1 39 rfl ?_
 try simp only [Act.put, pA, pB, pC]
 refine tK 2 40 rfl ?_
 try simp only [Act.put, pA, pB, pC]
 refine tK 3 41 rfl ?_
 try simp only [Act.put, pA, pB, pC]
 refine tK 4 42 rfl ?_
 try simp only [Act.put, pA, pB, pC]
 refine tK 6 44 rfl ?_
 try simp only [Act.put, pA, pB, pC]
 refine hO 5 (some 43) rfl fun K hK => ?_
 go_simp
 refine (us.new_none g b s l r q none 0 _ (HG4.out.kept hHeld.1)).mono ?_
 rintro e w5 ⟨tp, V, rfl, htp, hV, htab, hk5⟩
 have HK5 := hide (hHeld.1.trans hk5 (by simp))
 have HTAB := hide htab
 have HTP := hide (show w4.heap.size ≤ tp ∧ w4.heap.size ≤ V from by have := hHeld.1.size; omega)
 clear htab hk5 htp hV
 refine hK.out _ _ (by exact ⟨HK5.out, HCC.out _ HK5.out⟩) (fun hHeld => ?_)
 clear hK K
 try simp only [Act.put, pA, pB, pC]
 refine hO 7 (some 45) rfl fun K hK => ?_
 go_simp
 refine (us.rnew_any b s l r q none 0 0 [] _ HG4.out.rf (Vals.nil _ _ _) rfl (by intro x hx; cases hx) (by omega)).mono ?_
 rintro e w6 hrn
 obtain ⟨rt, U, L, rs, rfl, hrt, hU, hL, hra, hk6, hrs⟩ := hrn.resolve_right (fun hh => by have := hh.1; omega)
 obtain ⟨_, rfl⟩ := hrs.resolve_right (fun hh => by have := hh.1; omega)
 have HK6 := hide (HK5.out.trans hk6 (by simp))
 have HRT := hide hra
 have HTAB6 := hide (HTAB.out.keep hk6)
 have HRTN := hide (show w5.heap.size ≤ rt ∧ w5.heap.size ≤ U ∧ w5.heap.size ≤ L from ⟨hrt, hU, hL⟩)
 have HTP5 := hide (show tp < w5.heap.size ∧ V < w5.heap.size from ⟨HTAB.out.tab.lt, HTAB.out.seg.lt⟩)
 clear hra hk6 hrn hrs hrt hU hL
 refine hK.out _ _ (by exact ⟨HK6.out, HCC.out _ HK6.out⟩) (fun hHeld => ?_)
 clear hK K
 try simp only [Act.put, pA, pB, pC]
 refine tK 8 46 rfl ?_
 try simp only [Act.put, pA, pB, pC]
 refine hO 9 (some 47) rfl fun K hK => ?_
 go_simp
 refine hK.out _ _ (by exact ⟨HK6.out.alloc _, HCC.out _ (HK6.out.alloc _)⟩) (fun hHeld => ?_)
 clear hK K
 try simp only [Act.put, pA, pB, pC]
 refine tK 10 13 rfl ?_
 try simp only [Act.put, pA, pB, pC]
 refine wpAnyH_done (by kernel_rfl) ?_ _
 refine NoPanic.normal ?_
 obtain ⟨m, hm⟩ : ∃ m, w4.heap.size = m := ⟨_, rfl⟩
 obtain ⟨m2, hm2⟩ : ∃ m2, w5.heap.size = m2 := ⟨_, rfl⟩
 obtain ⟨zp, hzp⟩ : ∃ zp, w6.heap.size = zp := ⟨_, rfl⟩
 obtain ⟨w7, hw7⟩ : ∃ w7, w6.alloc (.cells #[.pointer (some ⟨d, 0, none⟩), .pointer (some ⟨rd, 0, none⟩), .pointer (some ⟨g, 0, none⟩), .int .i64 b, .int .i64 s, .int .i64 l, .pointer (some ⟨tp, 0, none⟩), .pointer (some ⟨rt, 0, none⟩), .pointer none, .pointer none] 82) = w7 := ⟨_, rfl⟩
 have k67 : Kept [] w6 w7 := by rw [← hw7]; exact (Kept.refl [] w6).alloc _
 have hblk : Blk w7 zp 82 #[.pointer (some ⟨d, 0, none⟩), .pointer (some ⟨rd, 0, none⟩), .pointer (some ⟨g, 0, none⟩), .int .i64 b, .int .i64 s, .int .i64 l, .pointer (some ⟨tp, 0, none⟩), .pointer (some ⟨rt, 0, none⟩), .pointer none, .pointer none] := by rw [← hw7, ← hzp]; exact Blk.new w6 _ _
 obtain ⟨T0, hT0⟩ : ∃ T0, List.replicate s.toNat Rw.zero = T0 := ⟨_, rfl⟩
 have k47 : Kept [] w4 w7 := HK6.out.trans k67 (by simp)
 have HKW7 := hide (HK4.out.trans k47 (by simp))
 have HM7 := hide (show Mst w w7 m m2 z zp d rd g tp V rt U L F G n b s l r q p T0 T0 none none from by
  have h1 := HPR.out
  have h3 := HK3.out.size
  refine ⟨HG4.out.kept k47, ⟨⟨h1.a.1.kept k47 (by simp), fun x hx => Nat.le_trans h3 (h1.a.2.1 x hx), HKW7.out⟩, h1.b.kept k47 (by simp), fun x hx => Nat.le_trans h3 (h1.new x hx), h1.sep⟩, ?_, ?_, hblk, k47.blk HB04.out (by simp), k47.blk HB14.out (by simp), ?_⟩
  ·rw [← hT0]; exact HTAB6.out.keep k67
  ·rw [← hT0]; exact HRT.out.keep k67
  ·have a1 := HG4.out.lt
   have a2 := HGE.out
   have a3 := HTP.out
   have a4 := HTP5.out
   have a5 := HRTN.out
   have a6 := HRT.out.tab.lt
   have a7 := HRT.out.use.lt
   have a8 := HRT.out.liv.lt
   refine ⟨HZ.out, a2, by omega, fun x hx => by have := HFG.out x hx; omega, by omega, by omega⟩)
 have HTE := sealed hT0
 clear k67 hblk k47 hm hm2 hT0 HK HB0 HB1 HG HGE HK2 HB02 HB12 HG3 HK3 HB03 HB13 HPR HG4 HB04 HB14 HK4 HFG HCC HK5 HTAB HTP HK6 HRT HTAB6 HRTN HTP5
 have n7 : w7.cell? ⟨zp, 6, none⟩ = some (.pointer (some ⟨tp, 0, none⟩)) := HM7.out.cells.1
 go_wp2
 obtain ⟨y0, hy0⟩ : ∃ y0, p.s % s = y0 := ⟨_, rfl⟩
 have HRN0 := hide (fun W => round_any p.s s W (by have := HSB.out; omega) (by have := HSB.out; omega))
 rw [hy0] at HRN0
 have HY0 := sealed hy0
 clear hy0
 have HC7 := hide (show w7.drew.cell? ⟨zp, 6, none⟩ = some (.pointer (some ⟨tp, 0, none⟩)) ∧ w7.drew.cell? ⟨zp, 7, none⟩ = some (.pointer (some ⟨rt, 0, none⟩)) ∧ (w7.drew.cell? ⟨z, 0, none⟩ = some (.int .i64 b) ∧ w7.drew.cell? ⟨z, 1, none⟩ = some (.int .i64 s) ∧ w7.drew.cell? ⟨z, 2, none⟩ = some (.int .i64 l)) ∧ (w7.drew.cell? ⟨z + 1, 0, none⟩ = some (.int .i64 p.s) ∧ w7.drew.cell? ⟨z + 1, 1, none⟩ = some (.int .i64 p.o) ∧ w7.drew.cell? ⟨z + 1, 2, none⟩ = some (.int .i64 p.l) ∧ w7.drew.cell? ⟨z + 1, 3, none⟩ = some (.int .i64 p.v) ∧ w7.drew.cell? ⟨z + 1, 4, none⟩ = some (.int .i64 p.m)) from (HM7.out.keep ((Kept.refl [] w7).drew)).cells)
 have HM7d := hide (HM7.out.keep ((Kept.refl [] w7).drew))
 have HK7d := hide (HKW7.out.trans ((Kept.refl [] w7).drew) (by simp))
 refine wp_region_noPanic ?_
 refine wp_region_held_drew (S := fun W => True ∧ W.cell? ⟨zp, 6, none⟩ = some (.pointer (some ⟨tp, 0, none⟩)) ∧ W.cell? ⟨zp, 7, none⟩ = some (.pointer (some ⟨rt, 0, none⟩)) ∧ (W.cell? ⟨z, 0, none⟩ = some (.int .i64 b) ∧ W.cell? ⟨z, 1, none⟩ = some (.int .i64 s) ∧ W.cell? ⟨z, 2, none⟩ = some (.int .i64 l)) ∧ (W.cell? ⟨z + 1, 0, none⟩ = some (.int .i64 p.s) ∧ W.cell? ⟨z + 1, 1, none⟩ = some (.int .i64 p.o) ∧ W.cell? ⟨z + 1, 2, none⟩ = some (.int .i64 p.l) ∧ W.cell? ⟨z + 1, 3, none⟩ = some (.int .i64 p.v) ∧ W.cell? ⟨z + 1, 4, none⟩ = some (.int .i64 p.m))) (by kernel_rfl) (by exact ⟨trivial, HC7.out⟩) (fun hHeld => ?_)
 refine tK 0 53 rfl ?_
 try simp only [Act.put, pA, pB, pC]
 refine tK 1 54 rfl ?_
 try simp only [Act.put, pA, pB, pC]
 refine tK 2 55 rfl ?_
 try simp only [Act.put, pA, pB, pC]
 refine tK 3 56 rfl ?_
 try simp only [Act.put, pA, pB, pC]
 refine tK 4 57 rfl ?_
 try simp only [Act.put, pA, pB, pC]
 refine tK 5 58 rfl ?_
 try simp only [Act.put, pA, pB, pC]
 refine tK 6 59 rfl ?_
 try simp only [Act.put, pA, pB, pC]
 refine tK 7 60 rfl ?_
 try simp only [Act.put, pA, pB, pC]
 refine hO 8 (some 61) rfl fun K hK => ?_
 go_simp
 refine (HRN0.out _).mono ?_
 rintro e wA ⟨rfl, rfl⟩
 refine hK.out _ _ (by exact hHeld) (fun hHeld => ?_)
 clear hK K
 try simp only [Act.put, pA, pB, pC]
 refine hO 9 (some 62) rfl fun K hK => ?_
 go_simp
 refine (us.grab_any HM7d.out.tab y0).mono ?_
 rintro e w8 ⟨rfl, ht8, hk8⟩
 have HM8 := hide (HM7d.out.tabs ht8 hk8)
 have HK8 := hide (HK7d.out.trans hk8 (fun j hj => .inr (by have := HM7d.out.ord; simp at hj; omega)))
 clear ht8 hk8
 refine hK.out _ _ (by exact ⟨trivial, HM8.out.cells⟩) (fun hHeld => ?_)
 clear hK K
 try simp only [Act.put, pA, pB, pC]
 refine wpAnyH_done (by kernel_rfl) ?_ _
 refine NoPanic.normal ?_
 go_wp2
 have HC8 := hide (show w8.drew.cell? ⟨zp, 6, none⟩ = some (.pointer (some ⟨tp, 0, none⟩)) ∧ w8.drew.cell? ⟨zp, 7, none⟩ = some (.pointer (some ⟨rt, 0, none⟩)) ∧ (w8.drew.cell? ⟨z, 0, none⟩ = some (.int .i64 b) ∧ w8.drew.cell? ⟨z, 1, none⟩ = some (.int .i64 s) ∧ w8.drew.cell? ⟨z, 2, none⟩ = some (.int .i64 l)) ∧ (w8.drew.cell? ⟨z + 1, 0, none⟩ = some (.int .i64 p.s) ∧ w8.drew.cell? ⟨z + 1, 1, none⟩ = some (.int .i64 p.o) ∧ w8.drew.cell? ⟨z + 1, 2, none⟩ = some (.int .i64 p.l) ∧ w8.drew.cell? ⟨z + 1, 3, none⟩ = some (.int .i64 p.v) ∧ w8.drew.cell? ⟨z + 1, 4, none⟩ = some (.int .i64 p.m)) from (HM8.out.keep ((Kept.refl [] w8).drew)).cells)
 have HM8d := hide (HM8.out.keep ((Kept.refl [] w8).drew))
 have HK8d := hide (HK8.out.trans ((Kept.refl [] w8).drew) (by simp))
 refine wp_region_noPanic ?_
 refine wp_region_held_drew (S := fun W => True ∧ W.cell? ⟨zp, 6, none⟩ = some (.pointer (some ⟨tp, 0, none⟩)) ∧ W.cell? ⟨zp, 7, none⟩ = some (.pointer (some ⟨rt, 0, none⟩)) ∧ (W.cell? ⟨z, 0, none⟩ = some (.int .i64 b) ∧ W.cell? ⟨z, 1, none⟩ = some (.int .i64 s) ∧ W.cell? ⟨z, 2, none⟩ = some (.int .i64 l)) ∧ (W.cell? ⟨z + 1, 0, none⟩ = some (.int .i64 p.s) ∧ W.cell? ⟨z + 1, 1, none⟩ = some (.int .i64 p.o) ∧ W.cell? ⟨z + 1, 2, none⟩ = some (.int .i64 p.l) ∧ W.cell? ⟨z + 1, 3, none⟩ = some (.int .i64 p.v) ∧ W.cell? ⟨z + 1, 4, none⟩ = some (.int .i64 p.m))) (by kernel_rfl) (by exact ⟨trivial, HC8.out⟩) (fun hHeld => ?_)
 refine tK 0 63 rfl ?_
 try simp only [Act.put, pA, pB, pC]
 refine tK 1 64 rfl ?_
 try simp only [Act.put, pA, pB, pC]
 refine tK 2 65 rfl ?_
 try simp only [Act.put, pA, pB, pC]
 refine tK 3 66 rfl ?_
 try simp only [Act.put, pA, pB, pC]
 refine tK 4 67 rfl ?_
 try simp only [Act.put, pA, pB, pC]
 refine tK 5 68 rfl ?_
 try simp only [Act.put, pA, pB, pC]
 refine tK 6 69 rfl ?_
 try simp only [Act.put, pA, pB, pC]
 refine tK 7 70 rfl ?_
 try simp only [Act.put, pA, pB, pC]
 refine hO 8 (some 71) rfl fun K hK => ?_
 go_simp
 refine (HRN0.out _).mono ?_
 rintro e wA ⟨rfl, rfl⟩
 refine hK.out _ _ (by exact hHeld) (fun hHeld => ?_)
 clear hK K
 try simp only [Act.put, pA, pB, pC]
 refine hO 9 (some 72) rfl fun K hK => ?_
 go_simp
 refine (us.rgrab_any HM8d.out.rtab y0).mono ?_
 rintro e w9 ⟨rfl, ht9, hk9⟩
 have HM9 := hide (show Mst w w9 m m2 z zp d rd g tp V rt U L F G n b s l r q p (busyT s p []) (busyT s p []) none none from by have hh := HM8d.out.rtabs ht9 hk9; unfold busyT; rw [HTE.out, HY0.out]; exact hh)
 have HK9 := hide (HK8d.out.trans hk9 (fun j hj => .inr (by have := HM8d.out.ord; simp at hj; omega)))
 clear ht9 hk9
 refine hK.out _ _ (by exact ⟨trivial, HM9.out.cells⟩) (fun hHeld => ?_)
 clear hK K
 try simp only [Act.put, pA, pB, pC]
 refine wpAnyH_done (by kernel_rfl) ?_ _
 refine NoPanic.normal ?_
 clear HM7 HM7d HK7d HC7 HM8 HK8 HC8 HM8d HK8d HKW7 n7 hHeld
 go_wp2
 go_loopw [14, 15] (fun i _ wr => ∃ k : Nat, k ≤ nb ∧ i = .int .i64 k ∧ Hid (Mst w wr m m2 z zp d rd g tp V rt U L F G n b s l r q p (busyT s p (ks.take k)) (busyT s p (ks.take k)) none none) ∧ Hid (Kept [] w wr)) (fun i _ _ => nb - (intOf i).toNat)
 case atStart => exact ⟨0, Nat.zero_le _, rfl, by simpa using HM9, HK9⟩
 case round =>
  clear HM9 HK9
  obtain ⟨k, hk, rfl, HMK, HKK⟩ := hrel
  by_cases hlt : k < nb
  ·obtain ⟨x, hx⟩ : ∃ x, ks[k]? = some x := ⟨_, List.getElem?_eq_getElem (by rw [HL.out]; exact hlt)⟩
   obtain ⟨ad, rfl, _, cc0⟩ := (HV.out.kept (HKK.out.trans ((Kept.refl [] wr).drew) (by simp)) (by simp)) k (I x) (by rw [List.getElem?_map, hx]; rfl)
   unfold I at cc0
   obtain ⟨y, hy⟩ : ∃ y, x % s = y := ⟨_, rfl⟩
   have HRN := hide (fun W => round_any x s W (by have := HSB.out; omega) (by have := HSB.out; omega))
   rw [hy] at HRN
   have HSN := hide (show busyT s p (ks.take (k + 1)) = if y = p.s then grabOf (busyT s p (ks.take k)) y else shutOf (grabOf (busyT s p (ks.take k)) y) y from by rw [busyT_snoc s p ks k x hx]; unfold busy1; rw [hy])
   obtain ⟨Tk, hTk⟩ : ∃ Tk, busyT s p (ks.take k) = Tk := ⟨_, rfl⟩
   rw [hTk] at HMK HSN
   clear hx hy hTk
   have e1 : decide ((k : Int) < nb) = true := decide_eq_true (by omega)
   have HMd := hide (HMK.out.keep ((Kept.refl [] wr).drew))
   have HKd := hide (HKK.out.trans ((Kept.refl [] wr).drew) (by simp))
   have hcd := HMd.out.cells
   have HCD := hide hcd
   clear hcd
   have i1 : ¬ (k : Int) < 0 := by omega
   have i2 : (k : Int) < (nb : Int) := by omega
   go_wp2
   refine wp_region_noPanic ?_
   refine wp_region_held_drew (S := fun W => True ∧ W.cell? (ad.add k) = some (.int .i64 x) ∧ W.cell? ⟨zp, 6, none⟩ = some (.pointer (some ⟨tp, 0, none⟩)) ∧ W.cell? ⟨zp, 7, none⟩ = some (.pointer (some ⟨rt, 0, none⟩)) ∧ (W.cell? ⟨z, 0, none⟩ = some (.int .i64 b) ∧ W.cell? ⟨z, 1, none⟩ = some (.int .i64 s) ∧ W.cell? ⟨z, 2, none⟩ = some (.int .i64 l)) ∧ (W.cell? ⟨z + 1, 0, none⟩ = some (.int .i64 p.s) ∧ W.cell? ⟨z + 1, 1, none⟩ = some (.int .i64 p.o) ∧ W.cell? ⟨z + 1, 2, none⟩ = some (.int .i64 p.l) ∧ W.cell? ⟨z + 1, 3, none⟩ = some (.int .i64 p.v) ∧ W.cell? ⟨z + 1, 4, none⟩ = some (.int .i64 p.m))) (by kernel_rfl) (by exact ⟨trivial, cc0, HCD.out⟩) (fun hHeld => ?_)
   refine tK 0 79 rfl ?_
   try simp only [Act.put, pA, pB, pC]
   refine tK 1 80 rfl ?_
   try simp only [Act.put, pA, pB, pC]
   refine tK 2 81 rfl ?_
   try simp only [Act.put, pA, pB, pC]
   refine tK 3 82 rfl ?_
   try simp only [Act.put, pA, pB, pC]
   refine tK 4 83 rfl ?_
   try simp only [Act.put, pA, pB, pC]
   refine tK 5 84 rfl ?_
   try simp only [Act.put, pA, pB, pC]
   refine hO 6 (some 85) rfl fun K hK => ?_
   go_simp
   refine (HRN.out _).mono ?_
   rintro e wA ⟨rfl, rfl⟩
   refine hK.out _ _ (by exact hHeld) (fun hHeld => ?_)
   clear hK K
   try simp only [Act.put, pA, pB, pC]
   refine tK 7 15 rfl ?_
   try simp only [Act.put, pA, pB, pC]
   refine wpAnyH_done (by kernel_rfl) ?_ _
   refine NoPanic.normal ?_
   clear hHeld cc0
   obtain ⟨wd, hwd⟩ : ∃ wd, wr.drew = wd := ⟨_, rfl⟩
   rw [hwd] at HMd HKd HCD ⊢
   clear hwd HMK HKK
   obtain ⟨a6, a7, -, a8, -⟩ := HCD.out
   go_wp2_with fail
   refine (us.grab_any HMd.out.tab y).mono ?_
   rintro e wa ⟨rfl, ht, hkk⟩
   have HMa := hide (HMd.out.tabs ht hkk)
   have HKa := hide (HKd.out.trans hkk (fun j hj => .inr (by have := HMd.out.ord; simp at hj; omega)))
   clear ht hkk a6 a7 a8
   have b7 : wa.cell? ⟨zp, 7, none⟩ = some (.pointer (some ⟨rt, 0, none⟩)) := HMa.out.cells.2.1
   go_wp2_with fail
   refine (us.rgrab_any HMa.out.rtab y).mono ?_
   rintro e wb ⟨rfl, ht, hkk⟩
   have HMb := hide (HMa.out.rtabs ht hkk)
   have HKb := hide (HKa.out.trans hkk (fun j hj => .inr (by have := HMa.out.ord; simp at hj; omega)))
   clear ht hkk b7
   obtain ⟨c6, c7, -, c8, -⟩ := HMb.out.cells
   have hwk : IntKind.i64.wrap ((k : Int) + 1) = (k : Int) + 1 := IntWalk.i64_in _ (by have := HNB.out; omega)
   by_cases hys : y = p.s
   ·have e2 : (y != p.s) = false := by simp [hys]
    have HSN2 := hide (HSN.out.trans (if_pos hys))
    clear hys
    go_wp2
    go_roundw
    case rel => exact ⟨k + 1, by omega, by go_num, by rw [HSN2.out]; exact HMb, HKb⟩
    case measure => simp [intOf]; omega
   ·have e2 : (y != p.s) = true := by simp [hys]
    have HSN2 := hide (HSN.out.trans (if_neg hys))
    clear hys
    go_wp2_with fail
    refine (us.shut_any HMb.out.tab y).mono ?_
    rintro e wx ⟨rfl, ht, hkk⟩
    have HMc := hide (HMb.out.tabs ht hkk)
    have HKc := hide (HKb.out.trans hkk (fun j hj => .inr (by have := HMb.out.ord; simp at hj; omega)))
    clear ht hkk c6 c7 c8
    have b7 : wx.cell? ⟨zp, 7, none⟩ = some (.pointer (some ⟨rt, 0, none⟩)) := HMc.out.cells.2.1
    go_wp2_with fail
    refine (us.rshut_any HMc.out.rtab y).mono ?_
    rintro e wy ⟨rfl, ht, hkk⟩
    have HMe := hide (HMc.out.rtabs ht (hkk.mono (by simp)))
    have HKe := hide (HKc.out.trans hkk (fun j hj => .inr (by have := HMc.out.ord; simp at hj; omega)))
    clear ht hkk b7
    go_wp2
    go_roundw
    case rel => exact ⟨k + 1, by omega, by go_num, by rw [HSN2.out]; exact HMe, HKe⟩
    case measure => simp [intOf]; omega
  ·have hke : k = nb := by omega
   have e1 : decide ((k : Int) < nb) = false := decide_eq_false (by omega)
   have HTK := hide (show busyT s p (ks.take k) = busyT s p ks from by rw [hke, ← HL.out, List.take_length])
   rw [HTK.out] at HMK
   clear hke
   obtain ⟨TT, hTT⟩ : ∃ TT, busyT s p ks = TT := ⟨_, rfl⟩
   rw [hTT] at HMK
   have HTT := sealed hTT
   clear HTK hTT HTE HY0 HRN0
   have HMd := hide (HMK.out.keep ((Kept.refl [] wr).drew))
   have HKd := hide (HKK.out.trans ((Kept.refl [] wr).drew) (by simp))
   have hcd := HMd.out.cells
   have HCD := hide hcd
   clear hcd HMK HKK
   have HWN := hide (fun W hg => wnew_one d g tp b s l r q p W hg)
   have HRW := hide (fun W => rwnew_one rd rt b s l p W (by have := HSB.out; omega) (by have := HSB.out; omega))
   unfold Ps.val at HWN HRW
   go_wp2
   refine wp_region_noPanic ?_
   refine beginX 11 (fun W => True ∧ W.cell? ⟨zp, 6, none⟩ = some (.pointer (some ⟨tp, 0, none⟩)) ∧ W.cell? ⟨zp, 7, none⟩ = some (.pointer (some ⟨rt, 0, none⟩)) ∧ (W.cell? ⟨z, 0, none⟩ = some (.int .i64 b) ∧ W.cell? ⟨z, 1, none⟩ = some (.int .i64 s) ∧ W.cell? ⟨z, 2, none⟩ = some (.int .i64 l)) ∧ (W.cell? ⟨z + 1, 0, none⟩ = some (.int .i64 p.s) ∧ W.cell? ⟨z + 1, 1, none⟩ = some (.int .i64 p.o) ∧ W.cell? ⟨z + 1, 2, none⟩ = some (.int .i64 p.l) ∧ W.cell? ⟨z + 1, 3, none⟩ = some (.int .i64 p.v) ∧ W.cell? ⟨z + 1, 4, none⟩ = some (.int .i64 p.m))) (by kernel_rfl) (by exact ⟨trivial, HCD.out⟩) (fun hHeld => ?_)
   refine takeX (i := 0) (oi := ⟨some 114, _, _, _, _, _⟩) (x := ?v32) rfl (by kernel_rfl) (by kernel_rfl) (by kernel_rfl) (by kernel_rfl) (fun _ _ _ h => h) (Or.inl ⟨by rfl, ?hy32⟩) (by assumption) ?rest32
   case hy32 => intro W h; (try dsimp only at h); go_simp; try with_reducible rfl
   try simp only [Act.put, pA, pB, pC]
   refine takeX (i := 1) (oi := ⟨some 115, _, _, _, _, _⟩) (x := ?v33) rfl (by kernel_rfl) (by kernel_rfl) (by kernel_rfl) (by kernel_rfl) (fun _ _ _ h => h) (Or.inl ⟨by rfl, ?hy33⟩) (by assumption) ?rest33
   case hy33 => intro W h; (try dsimp only at h); go_simp; try with_reducible rfl
   try simp only [Act.put, pA, pB, pC]
   refine takeX (i := 2) (oi := ⟨some 116, _, _, _, _, _⟩) (x := ?v34) rfl (by kernel_rfl) (by kernel_rfl) (by kernel_rfl) (by kernel_rfl) (fun _ _ _ h => h) (Or.inl ⟨by rfl, ?hy34⟩) (by assumption) ?rest34
   case hy34 => intro W h; (try dsimp only at h); go_simp; try with_reducible rfl
   try simp only [Act.put, pA, pB, pC]
   refine takeX (i := 3) (oi := ⟨some 117, _, _, _, _, _⟩) (x := ?v35) rfl (by kernel_rfl) (by kernel_rfl) (by kernel_rfl) (by kernel_rfl) (fun _ _ _ h => h) (Or.inl ⟨by rfl, ?hy35⟩) (by assumption) ?rest35
   case hy35 => intro W h; (try dsimp only at h); go_simp; try with_reducible rfl
   try simp only [Act.put, pA, pB, pC]
   refine takeX (i := 4) (oi := ⟨some 118, _, _, _, _, _⟩) (x := ?v36) rfl (by kernel_rfl) (by kernel_rfl) (by kernel_rfl) (by kernel_rfl) (fun _ _ _ h => h) (Or.inl ⟨by rfl, ?hy36⟩) (by assumption) ?rest36
   case hy36 => intro W h; (try dsimp only at h); go_simp; try with_reducible rfl
   try simp only [Act.put, pA, pB, pC]
   refine takeX (i := 5) (oi := ⟨some 119, _, _, _, _, _⟩) (x := ?v37) rfl (by kernel_rfl) (by kernel_rfl) (by kernel_rfl) (by kernel_rfl) (fun _ _ _ h => h) (Or.inl ⟨by rfl, ?hy37⟩) (by assumption) ?rest37
   case hy37 => intro W h; (try dsimp only at h); go_simp; try with_reducible rfl
   try simp only [Act.put, pA, pB, pC]
   refine takeX (i := 6) (oi := ⟨some 120, _, _, _, _, _⟩) (x := ?v38) rfl (by kernel_rfl) (by kernel_rfl) (by kernel_rfl) (by kernel_rfl) (fun _ _ _ h => h) (Or.inl ⟨by rfl, ?hy38⟩) (by assumption) ?rest38
   case hy38 => intro W h; (try dsimp only at h); go_simp; try with_reducible rfl
   try simp only [Act.put, pA, pB, pC]
   refine takeX (i := 7) (oi := ⟨some 121, _, _, _, _, _⟩) (x := ?v39) rfl (by kernel_rfl) (by kernel_rfl) (by kernel_rfl) (by kernel_rfl) (fun _ _ _ h => h) (Or.inl ⟨by rfl, ?hy39⟩) (by assumption) ?rest39
   case hy39 => intro W h; (try dsimp only at h); go_simp; try with_reducible rfl
   try simp only [Act.put, pA, pB, pC]
   refine oneX (i := 8) (o := ⟨some 122, _, _, _, _, _⟩) rfl (by kernel_rfl) (by rfl) (fun K hK => ?_)
   go_simp
   refine (HWN.out _ HMd.out.geo).mono ?_
   rintro e wv ⟨vp, rfl, hkv, hvv⟩
   have HMv := hide (HMd.out.keep hkv)
   have HKv := hide (HKd.out.trans hkv (by simp))
   have HVV := hide hvv
   have x8 := HMv.out.blk.cell 8
   have fz := Blk.frozen HMv.out.blk
   clear hkv hvv
   refine hK.out _ _ (by exact ⟨trivial, HMv.out.cells⟩) (fun hHeld => ?_)
   clear hK K
   try simp only [Act.put, pA, pB, pC]
   refine oneX (i := 9) (o := ⟨some 123, _, _, _, _, _⟩) rfl (by kernel_rfl) (by rfl) (fun K hK => ?_)
   go_simp
   refine hK.out _ _ (by exact hHeld) (fun hHeld => ?_)
   clear hK K
   try simp only [Act.put, pA, pB, pC]
   refine takeX (i := 10) (oi := ⟨some 124, _, _, _, _, _⟩) (x := ?v40) rfl (by kernel_rfl) (by kernel_rfl) (by kernel_rfl) (by kernel_rfl) (fun _ _ _ h => h) (Or.inl ⟨by rfl, ?hy40⟩) (by assumption) ?rest40
   case hy40 => intro W h; (try dsimp only at h); go_simp; try with_reducible rfl
   try simp only [Act.put, pA, pB, pC]
   refine lastX (o := ⟨none, _, _, _, _, _⟩) rfl (by kernel_rfl) (by rfl) (by kernel_rfl) (fun K hK => ?_)
   go_simp
   refine hK.out _ _ ?_
   clear hK K
   try simp only [Act.put, pA, pB, pC]
   refine NoPanic.normal ?_
   obtain ⟨wz, hwz⟩ : ∃ wz, wv.setCell ⟨zp, 8, none⟩ (.pointer vp) = wz := ⟨_, rfl⟩
   have hmz := HMv.out.setW vp
   rw [hwz] at hmz
   rw [hwz]
   clear hwz x8 fz hHeld
   have HMz := hide (hmz.1.keep ((Kept.refl [] wz).drew))
   have HKz := hide (HKv.out.trans hmz.2 (fun j hj => .inr (by have := HMv.out.ord; simp at hj; omega)))
   have HKzz := hide (hmz.2.trans ((Kept.refl [] wz).drew.mono (by simp)) (fun j hj => .inl hj))
   have HKz2 := hide (HKz.out.trans ((Kept.refl [] wz).drew) (by simp))
   have HCZ := hide (show wz.drew.cell? ⟨zp, 6, none⟩ = some (.pointer (some ⟨tp, 0, none⟩)) ∧ wz.drew.cell? ⟨zp, 7, none⟩ = some (.pointer (some ⟨rt, 0, none⟩)) ∧ (wz.drew.cell? ⟨z, 0, none⟩ = some (.int .i64 b) ∧ wz.drew.cell? ⟨z, 1, none⟩ = some (.int .i64 s) ∧ wz.drew.cell? ⟨z, 2, none⟩ = some (.int .i64 l)) ∧ (wz.drew.cell? ⟨z + 1, 0, none⟩ = some (.int .i64 p.s) ∧ wz.drew.cell? ⟨z + 1, 1, none⟩ = some (.int .i64 p.o) ∧ wz.drew.cell? ⟨z + 1, 2, none⟩ = some (.int .i64 p.l) ∧ wz.drew.cell? ⟨z + 1, 3, none⟩ = some (.int .i64 p.v) ∧ wz.drew.cell? ⟨z + 1, 4, none⟩ = some (.int .i64 p.m)) from HMz.out.cells)
   clear hmz
   go_wp2
   refine wp_region_noPanic ?_
   refine beginX 11 (fun W => True ∧ W.cell? ⟨zp, 6, none⟩ = some (.pointer (some ⟨tp, 0, none⟩)) ∧ W.cell? ⟨zp, 7, none⟩ = some (.pointer (some ⟨rt, 0, none⟩)) ∧ (W.cell? ⟨z, 0, none⟩ = some (.int .i64 b) ∧ W.cell? ⟨z, 1, none⟩ = some (.int .i64 s) ∧ W.cell? ⟨z, 2, none⟩ = some (.int .i64 l)) ∧ (W.cell? ⟨z + 1, 0, none⟩ = some (.int .i64 p.s) ∧ W.cell? ⟨z + 1, 1, none⟩ = some (.int .i64 p.o) ∧ W.cell? ⟨z + 1, 2, none⟩ = some (.int .i64 p.l) ∧ W.cell? ⟨z + 1, 3, none⟩ = some (.int .i64 p.v) ∧ W.cell? ⟨z + 1, 4, none⟩ = some (.int .i64 p.m))) (by kernel_rfl) (by exact ⟨trivial, HCZ.out⟩) (fun hHeld => ?_)
   refine takeX (i := 0) (oi := ⟨some 125, _, _, _, _, _⟩) (x := ?v41) rfl (by kernel_rfl) (by kernel_rfl) (by kernel_rfl) (by kernel_rfl) (fun _ _ _ h => h) (Or.inl ⟨by rfl, ?hy41⟩) (by assumption) ?rest41
   case hy41 => intro W h; (try dsimp only at h); go_simp; try with_reducible rfl
   try simp only [Act.put, pA, pB, pC]
   refine takeX (i := 1) (oi := ⟨some 126, _, _, _, _, _⟩) (x := ?v42) rfl (by kernel_rfl) (by kernel_rfl) (by kernel_rfl) (by kernel_rfl) (fun _ _ _ h => h) (Or.inl ⟨by rfl, ?hy42⟩) (by assumption) ?rest42
   case hy42 => intro W h; (try dsimp only at h); go_simp; try with_reducible rfl
   try simp only [Act.put, pA, pB, pC]
   refine takeX (i := 2) (oi := ⟨some 127, _, _, _, _, _⟩) (x := ?v43) rfl (by kernel_rfl) (by kernel_rfl) (by kernel_rfl) (by kernel_rfl) (fun _ _ _ h => h) (Or.inl ⟨by rfl, ?hy43⟩) (by assumption) ?rest43
   case hy43 => intro W h; (try dsimp only at h); go_simp; try with_reducible rfl
   try simp only [Act.put, pA, pB, pC]
   refine takeX (i := 3) (oi := ⟨some 128, _, _, _, _, _⟩) (x := ?v44) rfl (by kernel_rfl) (by kernel_rfl) (by kernel_rfl) (by kernel_rfl) (fun _ _ _ h => h) (Or.inl ⟨by rfl, ?hy44⟩) (by assumption) ?rest44
   case hy44 => intro W h; (try dsimp only at h); go_simp; try with_reducible rfl
   try simp only [Act.put, pA, pB, pC]
   refine takeX (i := 4) (oi := ⟨some 129, _, _, _, _, _⟩) (x := ?v45) rfl (by kernel_rfl) (by kernel_rfl) (by kernel_rfl) (by kernel_rfl) (fun _ _ _ h => h) (Or.inl ⟨by rfl, ?hy45⟩) (by assumption) ?rest45
   case hy45 => intro W h; (try dsimp only at h); go_simp; try with_reducible rfl
   try simp only [Act.put, pA, pB, pC]
   refine takeX (i := 5) (oi := ⟨some 130, _, _, _, _, _⟩) (x := ?v46) rfl (by kernel_rfl) (by kernel_rfl) (by kernel_rfl) (by kernel_rfl) (fun _ _ _ h => h) (Or.inl ⟨by rfl, ?hy46⟩) (by assumption) ?rest46
   case hy46 => intro W h; (try dsimp only at h); go_simp; try with_reducible rfl
   try simp only [Act.put, pA, pB, pC]
   refine takeX (i := 6) (oi := ⟨some 131, _, _, _, _, _⟩) (x := ?v47) rfl (by kernel_rfl) (by kernel_rfl) (by kernel_rfl) (by kernel_rfl) (fun _ _ _ h => h) (Or.inl ⟨by rfl, ?hy47⟩) (by assumption) ?rest47
   case hy47 => intro W h; (try dsimp only at h); go_simp; try with_reducible rfl
   try simp only [Act.put, pA, pB, pC]
   refine takeX (i := 7) (oi := ⟨some 132, _, _, _, _, _⟩) (x := ?v48) rfl (by kernel_rfl) (by kernel_rfl) (by kernel_rfl) (by kernel_rfl) (fun _ _ _ h => h) (Or.inl ⟨by rfl, ?hy48⟩) (by assumption) ?rest48
   case hy48 => intro W h; (try dsimp only at h); go_simp; try with_reducible rfl
   try simp only [Act.put, pA, pB, pC]
   refine oneX (i := 8) (o := ⟨some 133, _, _, _, _, _⟩) rfl (by kernel_rfl) (by rfl) (fun K hK => ?_)
   go_simp
   refine (HRW.out _).mono ?_
   rintro e wx ⟨xp, rfl, hkv, hvv⟩
   have HMx := hide (HMz.out.keep hkv)
   have HKx := hide (HKz2.out.trans hkv (by simp))
   have HKzx := hide (HKzz.out.trans hkv (by simp))
   have HXX := hide hvv
   have x9 := HMx.out.blk.cell 9
   have fz := Blk.frozen HMx.out.blk
   clear hkv hvv
   refine hK.out _ _ (by exact ⟨trivial, HMx.out.cells⟩) (fun hHeld => ?_)
   clear hK K
   try simp only [Act.put, pA, pB, pC]
   refine oneX (i := 9) (o := ⟨some 134, _, _, _, _, _⟩) rfl (by kernel_rfl) (by rfl) (fun K hK => ?_)
   go_simp
   refine hK.out _ _ (by exact hHeld) (fun hHeld => ?_)
   clear hK K
   try simp only [Act.put, pA, pB, pC]
   refine takeX (i := 10) (oi := ⟨some 135, _, _, _, _, _⟩) (x := ?v49) rfl (by kernel_rfl) (by kernel_rfl) (by kernel_rfl) (by kernel_rfl) (fun _ _ _ h => h) (Or.inl ⟨by rfl, ?hy49⟩) (by assumption) ?rest49
   case hy49 => intro W h; (try dsimp only at h); go_simp; try with_reducible rfl
   try simp only [Act.put, pA, pB, pC]
   refine lastX (o := ⟨none, _, _, _, _, _⟩) rfl (by kernel_rfl) (by rfl) (by kernel_rfl) (fun K hK => ?_)
   go_simp
   refine hK.out _ _ ?_
   clear hK K
   try simp only [Act.put, pA, pB, pC]
   refine NoPanic.normal ?_
   obtain ⟨wf, hwf⟩ : ∃ wf, wx.setCell ⟨zp, 9, none⟩ (.pointer xp) = wf := ⟨_, rfl⟩
   have hmf := HMx.out.setX xp
   rw [hwf] at hmf
   rw [hwf]
   clear hwf x9 fz hHeld
   have HMf := hide hmf.1
   have HKf := hide (HKx.out.trans hmf.2 (fun j hj => .inr (by have := HMx.out.ord; simp at hj; omega)))
   have HKxf := hide hmf.2
   clear hmf
   go_wp2
   refine bodyPost_ret (v := .tuple #[.pointer (some ⟨zp, 0, none⟩), .bool true]) (by simp [results, Tryz.results40, go_sem]) rfl ?_
   refine ⟨m, m2, z, zp, d, rd, g, tp, V, rt, U, L, F, G, n, r, q, vp, xp, rfl, by rw [HTT.out]; exact HMf.out, HN.out, HKf.out, ?_⟩
   rcases HVV.out with ⟨hp, v, rfl, hv1, hv2⟩ | ⟨hp, rfl⟩
   ·obtain ⟨_, x, rfl, hx1, hx2⟩ := HXX.out.resolve_right (fun hh => hh.1 hp)
    have o1 := HMd.out.blk.lt
    have o2 := hv2.lt
    have o3 := HKzz.out.size
    refine .inl ⟨hp, v, x, rfl, rfl, by omega, by omega, (hv2.kept HKzx.out (by simp; omega)).kept HKxf.out (by simp; omega), HKxf.out.blk hx2 (by simp; omega)⟩
   ·obtain ⟨_, rfl⟩ := HXX.out.resolve_left (fun hh => hp hh.1)
    exact .inr ⟨hp, rfl, rfl⟩
end Go.Proofs.YtolbalafhfpjbaaGreat.wr
