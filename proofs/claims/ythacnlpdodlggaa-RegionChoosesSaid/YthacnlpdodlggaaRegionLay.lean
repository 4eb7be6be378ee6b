/- Package region: lay, Encode. (Written by tools/genrgenc.py.) -/
import Derived.Test.YthacnlpdodlggaaRegionMayAny
import Derived.Test.YthacnlpdodlggaaRegionBits
import Derived.Test.YthacnlpdodlggaaCrcCore
import Derived.Test.YthacnlpdodlggaaFillCore
namespace Go.Proofs.Ythacnlpdodlggaa.rg
set_option linter.unusedSimpArgs false
open Go.RowKit Go.Proofs.Ythacnlpdodlggaa.mem Go.Proofs.Ythacnlpdodlggaa.base Go.Proofs.Ythacnlpdodlggaa.row Go.Proofs.Ythacnlpdodlggaa.rowBack Go.Proofs.Ythacnlpdodlggaa.fill Go.Proofs.Ythacnlpdodlggaa.crc Go.Proofs.Ythacnlpdodlggaa.crcMath
open Go.Proofs.Ythacnlpdodlggaa.super (sumOf sumOf_len fits1 fits4 sum_fits)

theorem fit_lists {D : Dv} {R : Rg} (h : D.ok) (hg : Good D R) : (∀ m ∈ [R.g, R.v], fitsW (4 : Nat) m = true) ∧ (∀ m ∈ [R.m], fitsW (1 : Nat) m = true) ∧ (∀ m ∈ [R.e, R.q, R.d], fitsW (4 : Nat) m = true) ∧ (∀ m ∈ [R.s, R.o], fitsW (1 : Nat) m = true) ∧ (∀ m ∈ [R.l, R.p, R.k], fitsW (4 : Nat) m = true) ∧ (∀ m ∈ [bitsOf R.bs, bitsOf R.ov], fitsW (1 : Nat) m = true) := by
  have hf := hg.fits h
  have f : ∀ x m, (x, m) ∈ R.nums → fitsW (x : Nat) m = true := fun x m hm => (hf _ hm).2
  refine ⟨fun m hm => ?_, fun m hm => ?_, fun m hm => ?_, fun m hm => ?_, fun m hm => ?_, fun m hm => ?_⟩ <;> simp only [List.mem_cons, List.not_mem_nil, or_false] at hm
  · rcases hm with rfl | rfl <;> exact f 4 _ (by simp [Rg.nums])
  · subst hm; exact f 1 _ (by simp [Rg.nums])
  · rcases hm with rfl | rfl | rfl <;> exact f 4 _ (by simp [Rg.nums])
  · rcases hm with rfl | rfl <;> exact f 1 _ (by simp [Rg.nums])
  · rcases hm with rfl | rfl | rfl <;> exact f 4 _ (by simp [Rg.nums])
  · rcases hm with rfl | rfl <;> exact f 1 _ (by simp [Rg.nums])
theorem row_new (n m : Nat) (h : m = n) : (⟨List.replicate m 0, 0⟩ : Row) = rowF n [] := by rw [h]; exact rowF_nil n
theorem lheld {w0 W W' : World} {g : Nat} {u v : Value} {S S' : List Nat} (h : Kept S w0 W ∧ W.cell? ⟨g, 11, none⟩ = some u ∧ W.cell? ⟨g, 12, none⟩ = some v) (hk : Kept S' W W') (hS : ∀ i ∈ S', i ∈ S) (hg : g ∉ S') : Kept S w0 W' ∧ W'.cell? ⟨g, 11, none⟩ = some u ∧ W'.cell? ⟨g, 12, none⟩ = some v :=
  ⟨h.1.trans hk (fun i hi => .inl (hS i hi)), hk.cell h.2.1 hg, hk.cell h.2.2 hg⟩
theorem take_snoc {R : Rg} {j : Nat} {u : Us} (hu : R.us[j]? = some u) : ((R.lead ++ useBytes (R.us.take j)) ++ bytesOf 1 [u.s]) ++ bytesOf 4 [u.t] = R.lead ++ useBytes (R.us.take (j + 1)) := by
  rw [List.take_add_one, hu]
  simp only [Option.toList_some, useBytes_snoc, List.append_assoc]
theorem take_len {R : Rg} {j n : Nat} (hn : R.us.length = n) (hj : j ≤ n) : (R.lead ++ useBytes (R.us.take j)).length = 39 + 5 * j := by
  rw [List.length_append, R.lead_len, useBytes_len, List.length_take]
  omega

set_option maxRecDepth 100000 in
set_option maxHeartbeats 4000000 in
theorem lay_any (p b cap : Nat) (A : Option Addr) (D : Dv) (R : Rg) (X : Sl) (w : World) (hD : D.ok) (hg : Good D R) (hr : RowAt w p b cap A (rowF (64 * D.r) [])) (hb : b < w.heap.size) (hx : RgIn w [p, b] X R) :
    Calls Try.prog 25 #[.pointer (some ⟨p, 0, none⟩), R.val X] w fun e w' => e = .returned (.tuple #[]) ∧ RowAt w' p b cap A (rowF (64 * D.r) R.head) ∧ Kept [p, b] w w' := by
  obtain ⟨w0, hw0⟩ : ∃ w0, w.alloc (.cells (R.cells X) 28) = w0 := ⟨_, rfl⟩
  have hk0 : Kept [] w w0 := by rw [← hw0]; exact (Kept.refl [] w).alloc _
  have hb0 : Blk w0 w.heap.size 28 (R.cells X) := by rw [← hw0]; exact Blk.new w _ _
  obtain ⟨g, hg0⟩ : ∃ g, w.heap.size = g := ⟨_, rfl⟩
  rw [hg0] at hb0
  unfold Rg.cells at hw0
  have hbd := hD.bd
  have hp := hr.lt
  have hgp : p < g := by omega
  have hgb : b < g := by omega
  have hs0 := hk0.size
  have hpw : p < w0.heap.size := by omega
  have hbw : b < w0.heap.size := by omega
  have hy5 : D.y ≤ 5 := hbd.2.2.2.1
  have hN43 := hbd.2.2.2.2
  have hul : R.us.length = D.n := hg.ul
  have hxu : X.u = D.n := hx.hu.symm.trans hul
  have hn32 := hD.hn.2
  have HF := hide (fit_lists hD hg)
  have HFU := hide hg.ufits
  have HGO := hide hg
  have HUL := hide hul
  have HXU := hide hxu
  obtain ⟨N, hN⟩ : ∃ N, 64 * D.r = N := ⟨_, rfl⟩
  rw [hN] at hr hN43 ⊢
  have HXI := hide hx
  have HB0 := hide hb0
  have HK0 : Hid (Kept [p, b] w w0) := hide (hk0.mono (by simp))
  have HR0 := hide (hr.kept hk0 (by simp) (by simp))
  obtain ⟨c0, c1, c2, c3, c4, c5, c6, c7, c8, c9, c10, c11, c12, c13⟩ := cell14 hb0
  clear hk0 hb0 hg hx hr hbd hN hs0 hul hxu hp hb
  unfold Rg.val
  go_enter Try.func25, Try.ntmps25
  have hcv := Go.Joins.run_convert_bytes_const_at (P := Try.prog) w0 35 5 #[.int .u8 75, .int .u8 67] 2 2 w0.heap.size rfl Try.underlying35 Try.underlying5
  go_wp2_with fail
  refine (lay_len p b cap A _ (some ⟨w0.heap.size, 0, none⟩) [75, 67] 2 2 _ rfl (HR0.out.kept (S := []) ((Kept.refl _ w0).alloc _) (by simp) (by simp)) (Vals.lit w0 [p, b] _ _ _ ([75, 67].map B) rfl (by simp; omega))).mono ?_
  rintro e w1 ⟨rfl, hr, hk⟩
  rw [rowF_lay N [] [75, 67] (by simp; omega), List.nil_append] at hr
  have HR1 := hide hr
  have HB1 := hide (Kept.lit_blk _ hk HB0.out (by simp; omega))
  have HK1 := hide ((HK0.out.alloc _).trans hk (fun i hi => .inl hi))
  have hs1 := hk.size
  simp at hs1
  have hpw1 : p < w1.heap.size := by omega
  have hbw1 : b < w1.heap.size := by omega
  clear hr hk hcv HR0 HB0 HK0 c0 c1 c2 c3 c4 c5 c6 c7 c8 c9 c10 c11 c12 c13 hs1 hpw hbw hw0
  obtain ⟨c0, c1, c2, c3, c4, c5, c6, c7, c8, c9, c10, c11, c12, c13⟩ := cell14 HB1.out
  go_wp2_with fail
  refine (put_len p b cap A _ 4 (some ⟨w1.heap.size, 0, none⟩) [R.g, R.v] 2 2 _ rfl (HR1.out.kept (S := []) ((Kept.refl _ w1).alloc _) (by simp) (by simp)) (Vals.lit w1 [p, b] _ _ _ ([R.g, R.v].map I) rfl (by simp; omega)) (by omega)).mono ?_
  rintro e w2 ⟨rfl, hr, hk⟩
  rw [show ((4 : Int)) = ((4 : Nat) : Int) by rfl, rowF_put N _ 4 _ rfl HF.out.1 (by simp; omega)] at hr
  have HR2 := hide hr
  have HB2 := hide (Kept.lit_blk _ hk HB1.out (by simp; omega))
  have HK2 := hide ((HK1.out.alloc _).trans hk (fun i hi => .inl hi))
  have hs2 := hk.size
  simp at hs2
  have hpw2 : p < w2.heap.size := by omega
  have hbw2 : b < w2.heap.size := by omega
  clear hr hk c0 c1 c2 c3 c4 c5 c6 c7 c8 c9 c10 c11 c12 c13 hs2 hpw1 hbw1 HR1 HB1 HK1
  obtain ⟨c0, c1, c2, c3, c4, c5, c6, c7, c8, c9, c10, c11, c12, c13⟩ := cell14 HB2.out
  go_wp2_with fail
  refine (put_len p b cap A _ 1 (some ⟨w2.heap.size, 0, none⟩) [R.m] 1 1 _ rfl (HR2.out.kept (S := []) ((Kept.refl _ w2).alloc _) (by simp) (by simp)) (Vals.lit w2 [p, b] _ _ _ ([R.m].map I) rfl (by simp; omega)) (by omega)).mono ?_
  rintro e w3 ⟨rfl, hr, hk⟩
  rw [show ((1 : Int)) = ((1 : Nat) : Int) by rfl, rowF_put N _ 1 _ rfl HF.out.2.1 (by simp [bytesOf_length]; omega)] at hr
  have HR3 := hide hr
  have HB3 := hide (Kept.lit_blk _ hk HB2.out (by simp; omega))
  have HK3 := hide ((HK2.out.alloc _).trans hk (fun i hi => .inl hi))
  have hs3 := hk.size
  simp at hs3
  have hpw3 : p < w3.heap.size := by omega
  have hbw3 : b < w3.heap.size := by omega
  clear hr hk c0 c1 c2 c3 c4 c5 c6 c7 c8 c9 c10 c11 c12 c13 hs3 hpw2 hbw2 HR2 HB2 HK2
  obtain ⟨c0, c1, c2, c3, c4, c5, c6, c7, c8, c9, c10, c11, c12, c13⟩ := cell14 HB3.out
  go_wp2_with fail
  refine (put_len p b cap A _ 4 (some ⟨w3.heap.size, 0, none⟩) [R.e, R.q, R.d] 3 3 _ rfl (HR3.out.kept (S := []) ((Kept.refl _ w3).alloc _) (by simp) (by simp)) (Vals.lit w3 [p, b] _ _ _ ([R.e, R.q, R.d].map I) rfl (by simp; omega)) (by omega)).mono ?_
  rintro e w4 ⟨rfl, hr, hk⟩
  rw [show ((4 : Int)) = ((4 : Nat) : Int) by rfl, rowF_put N _ 4 _ rfl HF.out.2.2.1 (by simp [bytesOf_length]; omega)] at hr
  have HR4 := hide hr
  have HB4 := hide (Kept.lit_blk _ hk HB3.out (by simp; omega))
  have HK4 := hide ((HK3.out.alloc _).trans hk (fun i hi => .inl hi))
  have hs4 := hk.size
  simp at hs4
  have hpw4 : p < w4.heap.size := by omega
  have hbw4 : b < w4.heap.size := by omega
  clear hr hk c0 c1 c2 c3 c4 c5 c6 c7 c8 c9 c10 c11 c12 c13 hs4 hpw3 hbw3 HR3 HB3 HK3
  obtain ⟨c0, c1, c2, c3, c4, c5, c6, c7, c8, c9, c10, c11, c12, c13⟩ := cell14 HB4.out
  go_wp2_with fail
  refine (put_len p b cap A _ 1 (some ⟨w4.heap.size, 0, none⟩) [R.s, R.o] 2 2 _ rfl (HR4.out.kept (S := []) ((Kept.refl _ w4).alloc _) (by simp) (by simp)) (Vals.lit w4 [p, b] _ _ _ ([R.s, R.o].map I) rfl (by simp; omega)) (by omega)).mono ?_
  rintro e w5 ⟨rfl, hr, hk⟩
  rw [show ((1 : Int)) = ((1 : Nat) : Int) by rfl, rowF_put N _ 1 _ rfl HF.out.2.2.2.1 (by simp [bytesOf_length]; omega)] at hr
  have HR5 := hide hr
  have HB5 := hide (Kept.lit_blk _ hk HB4.out (by simp; omega))
  have HK5 := hide ((HK4.out.alloc _).trans hk (fun i hi => .inl hi))
  have hs5 := hk.size
  simp at hs5
  have hpw5 : p < w5.heap.size := by omega
  have hbw5 : b < w5.heap.size := by omega
  clear hr hk c0 c1 c2 c3 c4 c5 c6 c7 c8 c9 c10 c11 c12 c13 hs5 hpw4 hbw4 HR4 HB4 HK4
  obtain ⟨c0, c1, c2, c3, c4, c5, c6, c7, c8, c9, c10, c11, c12, c13⟩ := cell14 HB5.out
  go_wp2_with fail
  refine (put_len p b cap A _ 4 (some ⟨w5.heap.size, 0, none⟩) [R.l, R.p, R.k] 3 3 _ rfl (HR5.out.kept (S := []) ((Kept.refl _ w5).alloc _) (by simp) (by simp)) (Vals.lit w5 [p, b] _ _ _ ([R.l, R.p, R.k].map I) rfl (by simp; omega)) (by omega)).mono ?_
  rintro e w6 ⟨rfl, hr, hk⟩
  rw [show ((4 : Int)) = ((4 : Nat) : Int) by rfl, rowF_put N _ 4 _ rfl HF.out.2.2.2.2.1 (by simp [bytesOf_length]; omega)] at hr
  have HR6 := hide hr
  have HB6 := hide (Kept.lit_blk _ hk HB5.out (by simp; omega))
  have HK6 := hide ((HK5.out.alloc _).trans hk (fun i hi => .inl hi))
  have hs6 := hk.size
  simp at hs6
  have hpw6 : p < w6.heap.size := by omega
  have hbw6 : b < w6.heap.size := by omega
  clear hr hk c0 c1 c2 c3 c4 c5 c6 c7 c8 c9 c10 c11 c12 c13 hs6 hpw5 hbw5 HR5 HB5 HK5
  have HS6 := hide (show Kept [p, b] w6 w6 ∧ w6.cell? ⟨g, 11, none⟩ = some (.slice X.A X.a X.ca) ∧ w6.cell? ⟨g, 12, none⟩ = some (.slice X.O X.o X.co) from ⟨Kept.refl _ _, HB6.out.cell 11, HB6.out.cell 12⟩)
  have HXW := hide (HXI.out.kept HK6.out (by simp))
  have HP7 : Hid ((rowF N (((((([75, 67] ++ bytesOf 4 [R.g, R.v]) ++ bytesOf 1 [R.m]) ++ bytesOf 4 [R.e, R.q, R.d]) ++ bytesOf 1 [R.s, R.o]) ++ bytesOf 4 [R.l, R.p, R.k]))).put 1 [bitsOf R.bs, bitsOf R.ov] = (true, rowF N R.lead)) := hide (rowF_put N _ 1 _ rfl HF.out.2.2.2.2.2 (by simp [bytesOf_length]; omega))
  go_wp2_with fail
  refine wp_region_noPanic ?_
  refine wp_region_held_drew (S := fun W => Kept [p, b] w6 W ∧ W.cell? ⟨g, 11, none⟩ = some (.slice X.A X.a X.ca) ∧ W.cell? ⟨g, 12, none⟩ = some (.slice X.O X.o X.co)) (by kernel_rfl) (by exact ⟨HS6.out.1.drew, HS6.out.2⟩) (fun hHeld => ?_)
  refine wpAnyH_take (i := 0) (oi := ⟨some 52, _, _, _, _, _⟩) (v := ?v1) rfl (by kernel_rfl) (by kernel_rfl) (by kernel_rfl) (fun _ _ _ h => h) (Or.inl ⟨by rfl, ?hy1⟩) (by assumption) ?rest1
  case hy1 => (intro W hSw; (try dsimp only at hSw); go_simp; try with_reducible rfl)
  try simp only [Act.put, List.setIfInBounds_toArray, List.set_cons_zero, List.set_cons_succ]
  refine wpAnyH_take (i := 1) (oi := ⟨some 53, _, _, _, _, _⟩) (v := ?v2) rfl (by kernel_rfl) (by kernel_rfl) (by kernel_rfl) (fun _ _ _ h => h) (Or.inl ⟨by rfl, ?hy2⟩) (by assumption) ?rest2
  case hy2 => (intro W hSw; (try dsimp only at hSw); go_simp; try with_reducible rfl)
  try simp only [Act.put, List.setIfInBounds_toArray, List.set_cons_zero, List.set_cons_succ]
  refine wpAnyH_take (i := 2) (oi := ⟨some 54, _, _, _, _, _⟩) (v := ?v3) rfl (by kernel_rfl) (by kernel_rfl) (by kernel_rfl) (fun _ _ _ h => h) (Or.inl ⟨by rfl, ?hy3⟩) (by assumption) ?rest3
  case hy3 => (intro W hSw; (try dsimp only at hSw); go_simp; try with_reducible rfl)
  try simp only [Act.put, List.setIfInBounds_toArray, List.set_cons_zero, List.set_cons_succ]
  refine wpAnyH_take (i := 4) (oi := ⟨some 56, _, _, _, _, _⟩) (v := ?v4) rfl (by kernel_rfl) (by kernel_rfl) (by kernel_rfl) (fun _ _ _ h => h) (Or.inl ⟨by rfl, ?hy4⟩) (by assumption) ?rest4
  case hy4 => (intro W hSw; (try dsimp only at hSw); go_simp; try with_reducible rfl)
  try simp only [Act.put, List.setIfInBounds_toArray, List.set_cons_zero, List.set_cons_succ]
  refine wpAnyH_take (i := 5) (oi := ⟨some 57, _, _, _, _, _⟩) (v := ?v5) rfl (by kernel_rfl) (by kernel_rfl) (by kernel_rfl) (fun _ _ _ h => h) (Or.inl ⟨by rfl, ?hy5⟩) (by assumption) ?rest5
  case hy5 => (intro W hSw; (try dsimp only at hSw); go_simp; try with_reducible rfl)
  try simp only [Act.put, List.setIfInBounds_toArray, List.set_cons_zero, List.set_cons_succ]
  refine held_one (i := 3) (o := ⟨some 55, _, _, _, _, _⟩) rfl (by kernel_rfl) (by rfl) (fun K hK => ?_)
  go_simp
  refine (packed_any X.A X.a X.ca R.bs _ (Vals.kept (HXW.out.at_.bs) ((Kept.refl [] w6).drewN 1) (by simp)) HXW.out.ha HGO.out.bs (by have := HXW.out.ha; have := HGO.out.bl; omega)).mono ?_
  rintro e z1 ⟨rfl, rfl⟩
  refine hK.out _ _ (by exact hHeld) (fun hHeld => ?_)
  clear hK K
  try simp only [Act.put, List.setIfInBounds_toArray, List.set_cons_zero, List.set_cons_succ]
  refine held_one (i := 6) (o := ⟨some 58, _, _, _, _, _⟩) rfl (by kernel_rfl) (by rfl) (fun K hK => ?_)
  go_simp
  refine (packed_any X.O X.o X.co R.ov _ (Vals.kept (HXW.out.at_.ov) ((Kept.refl [] w6).drewN 1) (by simp)) HXW.out.ho HGO.out.ov (by have := HXW.out.ho; have := HGO.out.ol; omega)).mono ?_
  rintro e z2 ⟨rfl, rfl⟩
  refine hK.out _ _ (by exact hHeld) (fun hHeld => ?_)
  clear hK K
  try simp only [Act.put, List.setIfInBounds_toArray, List.set_cons_zero, List.set_cons_succ]
  refine held_one (i := 7) (o := ⟨some 59, _, _, _, _, _⟩) rfl (by kernel_rfl) (by rfl) (fun K hK => ?_)
  go_simp
  refine hK.out _ _ (by exact lheld hHeld ((Kept.refl [] _).alloc _) (by simp) (by simp)) (fun hHeld => ?_)
  clear hK K
  try simp only [Act.put, List.setIfInBounds_toArray, List.set_cons_zero, List.set_cons_succ]
  refine held_one (i := 8) (o := ⟨some 60, _, _, _, _, _⟩) rfl (by kernel_rfl) (by rfl) (fun K hK => ?_)
  go_simp
  refine (put_len p b cap A _ 1 (some ⟨w6.heap.size, 0, none⟩) [bitsOf R.bs, bitsOf R.ov] 2 2 _ rfl ((HR6.out.drewN 1).kept (S := []) ((Kept.refl _ (w6.drewN 1)).alloc _) (by simp) (by simp)) (Vals.lit (w6.drewN 1) [p, b] _ _ _ ([bitsOf R.bs, bitsOf R.ov].map I) rfl (by simp; omega)) (by omega)).mono ?_
  rintro e w7 ⟨rfl, hr, hk⟩
  rw [HP7.out] at hr ⊢
  refine hK.out _ _ (by exact lheld hHeld hk (by simp) (by simp; omega)) (fun hHeld => ?_)
  clear hK K
  try simp only [Act.put, List.setIfInBounds_toArray, List.set_cons_zero, List.set_cons_succ]
  refine wpAnyH_done (by kernel_rfl) ?_ _
  refine NoPanic.normal ?_
  have HR7 : Hid (RowAt w7 p b cap A (rowF N (R.lead ++ useBytes (R.us.take 0)))) := hide (by
    have h : RowAt w7 p b cap A (rowF N R.lead) := hr
    rw [List.take_zero, show useBytes [] = [] from rfl, List.append_nil]
    exact h)
  have HB7 := hide (hHeld.1.blk HB6.out (by simp; omega))
  have HK7 := hide (HK6.out.trans hHeld.1 (fun i hi => .inl hi))
  have HX7 := hide (HXW.out.kept hHeld.1 (by simp))
  have hs7 := hHeld.1.size
  have hpw7 : p < w7.heap.size := by omega
  have hbw7 : b < w7.heap.size := by omega
  clear hr hk hHeld HS6 HXW HR6 HB6 HK6 hpw6 hbw6 hs7
  obtain ⟨c0, c1, c2, c3, c4, c5, c6, c7, c8, c9, c10, c11, c12, c13⟩ := cell14 HB7.out
  have hxu := HXU.out
  obtain ⟨n, hn⟩ : ∃ n, D.n = n := ⟨_, rfl⟩
  rw [hn] at hxu hN43 hn32 HUL HXU
  have hus := HX7.out.us
  obtain ⟨U, hU⟩ : ∃ U, X.U = U := ⟨_, rfl⟩
  rw [hU] at c13 hus
  rw [hxu] at c13
  have HU7 := hide hus
  clear hxu hus hU HX7
  go_wp2
  go_loopw [64] (fun i wr => ∃ j : Nat, j ≤ n ∧ i = .int .i64 j ∧ Hid (RowAt wr p b cap A (rowF N (R.lead ++ useBytes (R.us.take j)))) ∧ Hid (Kept [p, b] w wr) ∧ Hid (Uses wr [p, b] U R.us) ∧ p < wr.heap.size ∧ b < wr.heap.size) (fun i wr => n - (intOf i).toNat)
  case atStart => exact ⟨0, by omega, rfl, HR7, HK7, HU7, hpw7, hbw7⟩
  case round =>
    clear c0 c1 c2 c3 c4 c5 c6 c7 c8 c9 c10 c11 c12 c13
    obtain ⟨j, hj, rfl, HR, HK, HX, hpr, hbr⟩ := hrel
    by_cases hlt : j < n
    · obtain ⟨u, hu⟩ : ∃ u, R.us[j]? = some u := ⟨_, List.getElem?_eq_getElem (by rw [HUL.out]; exact hlt)⟩
      obtain ⟨ad, rfl, hnS, e0, e1⟩ := HX.out.at_ hu
      have HSN := hide (take_snoc hu)
      have hf := HFU.out u (List.mem_of_getElem? hu)
      have HF1 : Hid (∀ m ∈ [u.s], fitsW (1 : Nat) m = true) := hide (by simpa using hf.1)
      have HF4 : Hid (∀ m ∈ [u.t], fitsW (4 : Nat) m = true) := hide (by simpa using hf.2)
      have HTL := hide (take_len HUL.out hj)
      clear hf hu
      obtain ⟨ys, hys⟩ : ∃ ys, R.lead ++ useBytes (R.us.take j) = ys := ⟨_, rfl⟩
      rw [hys] at HTL HSN HR
      clear hys
      obtain ⟨s, t⟩ := u
      dsimp only at e0 e1 HSN HF1 HF4
      obtain ⟨wa, hwa⟩ : ∃ wa, wr.alloc (.cells #[.int .i64 s, .int .i64 t] 79) = wa := ⟨_, rfl⟩
      have hka : Kept [] wr wa := by rw [← hwa]; exact (Kept.refl [] wr).alloc _
      have hba : Blk wa wr.heap.size 79 #[.int .i64 s, .int .i64 t] := by rw [← hwa]; exact Blk.new wr _ _
      obtain ⟨x, hxx⟩ : ∃ x, wr.heap.size = x := ⟨_, rfl⟩
      rw [hxx] at hba
      have d0 : wa.cell? ⟨x, 0, none⟩ = some (.int .i64 s) := hba.cell 0
      have HBA := hide hba
      have HRA := hide (HR.out.kept hka (by simp) (by simp))
      have HKA := hide (HK.out.trans hka (by simp))
      have HXA := hide (HX.out.kept hka (by simp))
      have hsa := hka.size
      have hpx : p < x := by omega
      have hbx : b < x := by omega
      have hpa : p < wa.heap.size := by omega
      have hbaa : b < wa.heap.size := by omega
      clear hka hba hsa
      go_wp2_with fail
      refine (put_len p b cap A _ 1 (some ⟨wa.heap.size, 0, none⟩) [s] 1 1 _ rfl (HRA.out.kept (S := []) ((Kept.refl _ wa).alloc _) (by simp) (by simp)) (Vals.lit wa [p, b] _ _ _ ([s].map I) rfl (by simp; omega)) (by omega)).mono ?_
      rintro e wb ⟨rfl, hr, hk⟩
      rw [show ((1 : Int)) = ((1 : Nat) : Int) by rfl, rowF_put N _ 1 _ rfl HF1.out (by rw [HTL.out]; simp; omega)] at hr
      have HRB := hide hr
      have HBB := hide (Kept.lit_blk _ hk HBA.out (by simp; omega))
      have HKB := hide ((HKA.out.alloc _).trans hk (fun i hi => .inl hi))
      have HXB := hide (HXA.out.kept (((Kept.refl [p, b] wa).alloc _).trans hk (fun i hi => .inl hi)) (by simp))
      have hsb := hk.size
      simp at hsb
      have hpb : p < wb.heap.size := by omega
      have hbb : b < wb.heap.size := by omega
      have d1 : wb.cell? ⟨x, 1, none⟩ = some (.int .i64 t) := HBB.out.cell 1
      clear hr hk hsb HRA HKA HXA HBA d0 hwa hpa hbaa
      go_wp2_with fail
      refine (put_len p b cap A _ 4 (some ⟨wb.heap.size, 0, none⟩) [t] 1 1 _ rfl (HRB.out.kept (S := []) ((Kept.refl _ wb).alloc _) (by simp) (by simp)) (Vals.lit wb [p, b] _ _ _ ([t].map I) rfl (by simp; omega)) (by omega)).mono ?_
      rintro e wc ⟨rfl, hr, hk⟩
      rw [show ((4 : Int)) = ((4 : Nat) : Int) by rfl, rowF_put N _ 4 _ rfl HF4.out (by rw [List.length_append, HTL.out, bytesOf_length]; simp; omega), HSN.out] at hr
      have HRC := hide hr
      have HKC := hide ((HKB.out.alloc _).trans hk (fun i hi => .inl hi))
      have HXC := hide (HXB.out.kept (((Kept.refl [p, b] wb).alloc _).trans hk (fun i hi => .inl hi)) (by simp))
      have hsc := hk.size
      simp at hsc
      have hpc : p < wc.heap.size := by omega
      have hbc : b < wc.heap.size := by omega
      clear hr hk hsc HRB HKB HXB HBB d1
      go_wp2
      go_roundw
      case rel => exact ⟨j + 1, by omega, by go_num, HRC, HKC, HXC, hpc, hbc⟩
      case measure => simp [intOf]; omega
    · obtain rfl : j = n := by omega
      have hr := HR.out
      rw [List.take_of_length_le (by rw [HUL.out]; exact Nat.le_refl _)] at hr
      have HRE : Hid (RowAt wr p b cap A (rowF N R.head)) := hide hr
      clear hr
      go_wp2
      go_end0
      exact ⟨rfl, HRE.out, HK.out⟩

end Go.Proofs.Ythacnlpdodlggaa.rg
