/- The reference's RegionBytes. (Written by tools/genrgrbytes.py.) -/
import Derived.Test.YthacnlpdodlggaaRegionRMay
import Derived.Test.YthacnlpdodlggaaRegionEnc
import Derived.Test.YthacnlpdodlggaaRefClosed
import Derived.Test.YthacnlpdodlggaaAlike
namespace Go.Proofs.Ythacnlpdodlggaa.rg
set_option linter.unusedSimpArgs false
open Go.RowKit Go.Proofs.Ythacnlpdodlggaa.mem Go.Proofs.Ythacnlpdodlggaa.base Go.Proofs.Ythacnlpdodlggaa.row Go.Proofs.Ythacnlpdodlggaa.rowBack Go.Proofs.Ythacnlpdodlggaa.fill Go.Proofs.Ythacnlpdodlggaa.crc Go.Proofs.Ythacnlpdodlggaa.crcMath Go.Proofs.Ythacnlpdodlggaa.ref
open Go.Proofs.Ythacnlpdodlggaa.super (sumOf sumOf_len sum_fits)

theorem rbytes_no (D : Dv) (hD : D.ok) (R : Rg) (X : Sl) (w : World) (h : RgIn w [] X R) (hs : X.small) (hm : R.may D = false) :
    Calls Try.prog 10 #[.agg #[.int .i64 D.b, .int .i64 D.n, .int .i64 D.z], R.val X] w fun e w' => e = .returned (.tuple #[.slice none 0 0, .int .i64 1]) ∧ Kept [] w w' := by
  obtain ⟨wa, hwa⟩ : ∃ wa, w.alloc (.cells #[.int .i64 D.b, .int .i64 D.n, .int .i64 D.z] 31) = wa := ⟨_, rfl⟩
  have hka : Kept [] w wa := by rw [← hwa]; exact (Kept.refl [] w).alloc _
  have hba : Blk wa w.heap.size 31 #[.int .i64 D.b, .int .i64 D.n, .int .i64 D.z] := by rw [← hwa]; exact Blk.new w _ _
  obtain ⟨q, hq⟩ : ∃ q, w.heap.size = q := ⟨_, rfl⟩
  rw [hq] at hba
  obtain ⟨w0, hw0⟩ : ∃ w0, wa.alloc (.cells (R.cells X) 28) = w0 := ⟨_, rfl⟩
  have hk0 : Kept [] wa w0 := by rw [← hw0]; exact (Kept.refl [] wa).alloc _
  have hb0 : Blk w0 wa.heap.size 28 (R.cells X) := by rw [← hw0]; exact Blk.new wa _ _
  obtain ⟨g, hg⟩ : ∃ g, wa.heap.size = g := ⟨_, rfl⟩
  rw [hg] at hb0
  unfold Rg.cells at hw0
  have hk := hka.trans hk0 (by simp)
  have HX := hide (h.kept hk (by simp))
  have HK := hide hk
  have HM := hide hm
  obtain ⟨c0, c1, c2, c3, c4, c5, c6, c7, c8, c9, c10, c11, c12, c13⟩ := cell14 hb0
  obtain ⟨d0, d1, d2⟩ := cfg_cells (hk0.blk hba (by simp))
  clear hk0 hb0 h hk hka hba hm
  unfold Rg.val
  go_enter Try.func10, Try.ntmps10
  go_wp2_with fail
  refine (rmay_any D hD R X _ HX.out hs).mono ?_
  rintro e w1 ⟨rfl, hk⟩
  rw [HM.out]
  have HK1 := hide (HK.out.trans hk (by simp))
  clear hk c0 c1 c2 c3 c4 c5 c6 c7 c8 c9 c10 c11 c12 c13 d0 d1 d2
  go_wp2
  go_ret2
  exact ⟨rfl, HK1.out⟩

theorem rput_one (n : Nat) (a : List UInt8) (x : Nat) (y : Int) (hx : isW (x : Int) = true) (hf : fitsW (x : Nat) y = true) (h : a.length + x ≤ n) : (Row.put (rowF n a) x [y]).2 = rowF n (a ++ bytesOf x [y]) := by
  rw [rowF_put n a x [y] hx (by simpa using hf) (by simpa using h)]
theorem put_last (N M : Nat) (bd : List UInt8) (y : Int) (h : bd.length = M) (hN : N = M + 4) (hf : fitsW (4 : Nat) y = true) : (Row.put ⟨(rowF N bd).bs, M⟩ 4 [y]).2 = rowF N (bd ++ bytesOf 4 [y]) := by
  have e : (⟨(rowF N bd).bs, M⟩ : Row) = rowF N bd := by rw [← h]; rfl
  rw [e]
  exact rput_one N bd 4 y rfl hf (by omega)
theorem head_zeros {D : Dv} {R : Rg} (h : D.ok) (hg : Good D R) : (rowF (64 * D.r) R.head).bs = (rowF (64 * D.r) (R.body D)).bs := by
  have hbd := h.bd
  have hl := R.head_len
  have hul := hg.ul
  have hbl := Rg.body_len h hg
  show R.head ++ List.replicate (64 * D.r - R.head.length) 0 = R.body D ++ List.replicate (64 * D.r - (R.body D).length) 0
  rw [hbl]
  unfold Rg.body
  rw [List.append_assoc, List.replicate_append_replicate]
  congr 2
  omega
theorem ref_held {w0 W W' : World} {p : Nat} {v : Value} {S S' : List Nat} (h : Kept S w0 W ∧ W.cell? ⟨p, 0, none⟩ = some v) (hk : Kept S' W W') (hS : ∀ i ∈ S', i ∈ S) (hc : W'.cell? ⟨p, 0, none⟩ = some v) : Kept S w0 W' ∧ W'.cell? ⟨p, 0, none⟩ = some v :=
  ⟨h.1.trans hk (fun i hi => .inl (hS i hi)), hc⟩

set_option maxRecDepth 100000 in
set_option maxHeartbeats 4000000 in
theorem rbytes_yes (D : Dv) (hD : D.ok) (R : Rg) (X : Sl) (w : World) (h : RgIn w [] X R) (hs : X.small) (hm : R.may D = true) :
    Calls Try.prog 10 #[.agg #[.int .i64 D.b, .int .i64 D.n, .int .i64 D.z], R.val X] w fun e w' => ∃ b, e = .returned (.tuple #[.slice (some ⟨b, 0, none⟩) (64 * D.r) (64 * D.r), .int .i64 0]) ∧ Arr w' b (64 * D.r) (R.bytes D) ∧ Kept [] w w' := by
  obtain ⟨wa, hwa⟩ : ∃ wa, w.alloc (.cells #[.int .i64 D.b, .int .i64 D.n, .int .i64 D.z] 31) = wa := ⟨_, rfl⟩
  have hka : Kept [] w wa := by rw [← hwa]; exact (Kept.refl [] w).alloc _
  have hba : Blk wa w.heap.size 31 #[.int .i64 D.b, .int .i64 D.n, .int .i64 D.z] := by rw [← hwa]; exact Blk.new w _ _
  obtain ⟨q, hq⟩ : ∃ q, w.heap.size = q := ⟨_, rfl⟩
  rw [hq] at hba
  obtain ⟨w0, hw0⟩ : ∃ w0, wa.alloc (.cells (R.cells X) 28) = w0 := ⟨_, rfl⟩
  have hk0 : Kept [] wa w0 := by rw [← hw0]; exact (Kept.refl [] wa).alloc _
  have hb0 : Blk w0 wa.heap.size 28 (R.cells X) := by rw [← hw0]; exact Blk.new wa _ _
  obtain ⟨g, hg⟩ : ∃ g, wa.heap.size = g := ⟨_, rfl⟩
  rw [hg] at hb0
  unfold Rg.cells at hw0
  have hgo := (R.may_iff D).1 hm
  have hbd := hD.bd
  have HGO := hide hgo
  have HD := hide hD
  have HM := hide hm
  have HF := hide (fit_lists hD hgo)
  have HFU := hide hgo.ufits
  have HHZ := hide (head_zeros hD hgo)
  have HBL := hide (Rg.body_len hD hgo)
  have HFL := hide (show (rowF (64 * D.r) (R.body D ++ sumOf (R.body D))).bs = R.bytes D from rowF_full _ _ (Rg.bytes_len hD hgo))
  have HBY := hide (Rg.bytes_len hD hgo)
  have hul : R.us.length = D.n := hgo.ul
  have hxu : X.u = D.n := h.hu.symm.trans hul
  have hn32 := hD.hn.2
  have hy5 : D.y ≤ 5 := hbd.2.2.2.1
  obtain ⟨N, hN⟩ : ∃ N, 64 * D.r = N := ⟨_, rfl⟩
  have HN := hide hN
  have hNr : (D.r : Int) * 64 = (N : Int) := by omega
  have hr4 : D.r ≤ 4 := hbd.2.1
  have hr2 : 2 ≤ D.r := hbd.1
  have hN43 := hbd.2.2.2.2
  rw [hN] at HHZ HBL HFL HBY hN43 ⊢
  have hN256 : N ≤ 256 := by omega
  have hN128 : 128 ≤ N := by omega
  have hk := hka.trans hk0 (by simp)
  have HX0 := hide (h.kept hk (by simp))
  have HB0 := hide hb0
  have HQ0 := hide (hk0.blk hba (by simp))
  have HK0 := hide hk
  have hqg : q < g := by rw [← hq, ← hg, ← hwa]; simp
  have HUL := hide hul
  have HXU := hide hxu
  obtain ⟨c0, c1, c2, c3, c4, c5, c6, c7, c8, c9, c10, c11, c12, c13⟩ := cell14 hb0
  obtain ⟨d0, d1, d2⟩ := cfg_cells HQ0.out
  clear hk0 hb0 h hk hka hba hm hgo hbd hN hul hxu
  unfold Rg.val
  go_enter Try.func10, Try.ntmps10
  go_wp2_with fail
  refine (rmay_any D HD.out R X _ HX0.out hs).mono ?_
  rintro e w1 ⟨rfl, hk⟩
  rw [HM.out]
  have HX1 := hide (HX0.out.kept hk (by simp))
  have HB1 := hide (hk.blk HB0.out (by simp))
  have HQ1 := hide (hk.blk HQ0.out (by simp))
  have HK1 := hide (HK0.out.trans hk (by simp))
  clear hk c0 c1 c2 c3 c4 c5 c6 c7 c8 c9 c10 c11 c12 c13 d0 d1 d2 HX0 HB0 HQ0 HK0 hw0 hwa
  obtain ⟨d0, d1, d2⟩ := cfg_cells HQ1.out
  go_wp2_with fail
  refine (rlen D HD.out _).mono ?_
  rintro e w2 ⟨rfl, hk⟩
  have HX2 := hide (HX1.out.kept hk (by simp))
  have HB2 := hide (hk.blk HB1.out (by simp))
  have HK2 := hide (HK1.out.trans hk (by simp))
  clear hk d0 d1 d2 HX1 HB1 HQ1 HK1
  have g1 : IntKind.i64.wrap ((D.r : Int) * 64) = (N : Int) := by rw [hNr]; exact IntWalk.i64_in _ (by omega)
  clear hNr
  go_wp2_with fail
  refine (rbegun_any N 75 67 _ (by omega) (by omega)).mono ?_
  rintro e w3 ⟨p, b, rfl, hp, hb, hr, hk⟩
  have hp3 := hr.lt
  have hb3 := hr.blt
  have hwg : w.heap.size ≤ w2.heap.size := HK2.out.size
  have HR1 := hide hr
  have HXI := hide (HX2.out.far hk (S := [p, b]) (by simp; omega))
  have HB3 := hide (hk.blk HB2.out (by simp))
  have HK3 := hide (HK2.out.trans hk (by simp))
  have hgl := HB2.out.lt
  have hgp : g < p := by omega
  have hgb : g < b := by omega
  have hPw : w.heap.size ≤ p := by omega
  have hBw : w.heap.size ≤ b := by omega
  clear hr hk HX2 HB2 HK2 g1 hp hb hwg hgl
  obtain ⟨v, hv⟩ : ∃ v, w3 = v := ⟨_, rfl⟩
  have HB1 := hide HB3.out
  have HK1 : Hid (Kept [p, b] w3 w3) := hide (Kept.refl _ _)
  have hpw1 : p < w3.heap.size := hp3
  have hbw1 : b < w3.heap.size := hb3
  clear hv v HB3
  obtain ⟨c0, c1, c2, c3, c4, c5, c6, c7, c8, c9, c10, c11, c12, c13⟩ := cell14 HB1.out
  go_wp2_with fail
  refine (rput_at p b _ 4 (some ⟨w3.heap.size, 0, none⟩) [R.g, R.v] 2 2 _ rfl (HR1.out.kept (S := []) ((Kept.refl _ w3).alloc _) (by simp) (by simp)) (Vals.lit w3 [p, b] _ _ _ ([R.g, R.v].map I) rfl (by simp; omega)) (by omega)).mono ?_
  rintro e v2 ⟨rfl, hr, hk⟩
  rw [show ((4 : Int)) = ((4 : Nat) : Int) by rfl, rowF_put N _ 4 _ rfl HF.out.1 (by simp; omega)] at hr
  have HR2 := hide hr
  have HB2 := hide (Kept.lit_blk _ hk HB1.out (by simp; omega))
  have HK2 := hide ((HK1.out.alloc _).trans hk (fun i hi => .inl hi))
  have hs2 := hk.size
  simp at hs2
  have hpw2 : p < v2.heap.size := by omega
  have hbw2 : b < v2.heap.size := by omega
  clear hr hk c0 c1 c2 c3 c4 c5 c6 c7 c8 c9 c10 c11 c12 c13 hs2 hpw1 hbw1 HR1 HB1 HK1
  obtain ⟨c0, c1, c2, c3, c4, c5, c6, c7, c8, c9, c10, c11, c12, c13⟩ := cell14 HB2.out
  go_wp2_with fail
  refine (rone_any p b _ _ 1 R.m _ HR2.out (rput_one N _ 1 R.m rfl (HF.out.2.1 _ (by simp)) (by simp [bytesOf_length]; omega))).mono ?_
  rintro e v3 ⟨rfl, hr, hk⟩
  have HR3 := hide hr
  have HB3 := hide (hk.blk HB2.out (by simp; omega))
  have HK3 := hide (HK2.out.trans hk (fun i hi => .inl hi))
  have hs3 := hk.size
  have hpw3 : p < v3.heap.size := by omega
  have hbw3 : b < v3.heap.size := by omega
  clear hr hk c0 c1 c2 c3 c4 c5 c6 c7 c8 c9 c10 c11 c12 c13 hs3 hpw2 hbw2 HR2 HB2 HK2
  obtain ⟨c0, c1, c2, c3, c4, c5, c6, c7, c8, c9, c10, c11, c12, c13⟩ := cell14 HB3.out
  go_wp2_with fail
  refine (rput_at p b _ 4 (some ⟨v3.heap.size, 0, none⟩) [R.e, R.q, R.d] 3 3 _ rfl (HR3.out.kept (S := []) ((Kept.refl _ v3).alloc _) (by simp) (by simp)) (Vals.lit v3 [p, b] _ _ _ ([R.e, R.q, R.d].map I) rfl (by simp; omega)) (by omega)).mono ?_
  rintro e v4 ⟨rfl, hr, hk⟩
  rw [show ((4 : Int)) = ((4 : Nat) : Int) by rfl, rowF_put N _ 4 _ rfl HF.out.2.2.1 (by simp [bytesOf_length]; omega)] at hr
  have HR4 := hide hr
  have HB4 := hide (Kept.lit_blk _ hk HB3.out (by simp; omega))
  have HK4 := hide ((HK3.out.alloc _).trans hk (fun i hi => .inl hi))
  have hs4 := hk.size
  simp at hs4
  have hpw4 : p < v4.heap.size := by omega
  have hbw4 : b < v4.heap.size := by omega
  clear hr hk c0 c1 c2 c3 c4 c5 c6 c7 c8 c9 c10 c11 c12 c13 hs4 hpw3 hbw3 HR3 HB3 HK3
  obtain ⟨c0, c1, c2, c3, c4, c5, c6, c7, c8, c9, c10, c11, c12, c13⟩ := cell14 HB4.out
  go_wp2_with fail
  refine (rput_at p b _ 1 (some ⟨v4.heap.size, 0, none⟩) [R.s, R.o] 2 2 _ rfl (HR4.out.kept (S := []) ((Kept.refl _ v4).alloc _) (by simp) (by simp)) (Vals.lit v4 [p, b] _ _ _ ([R.s, R.o].map I) rfl (by simp; omega)) (by omega)).mono ?_
  rintro e v5 ⟨rfl, hr, hk⟩
  rw [show ((1 : Int)) = ((1 : Nat) : Int) by rfl, rowF_put N _ 1 _ rfl HF.out.2.2.2.1 (by simp [bytesOf_length]; omega)] at hr
  have HR5 := hide hr
  have HB5 := hide (Kept.lit_blk _ hk HB4.out (by simp; omega))
  have HK5 := hide ((HK4.out.alloc _).trans hk (fun i hi => .inl hi))
  have hs5 := hk.size
  simp at hs5
  have hpw5 : p < v5.heap.size := by omega
  have hbw5 : b < v5.heap.size := by omega
  clear hr hk c0 c1 c2 c3 c4 c5 c6 c7 c8 c9 c10 c11 c12 c13 hs5 hpw4 hbw4 HR4 HB4 HK4
  obtain ⟨c0, c1, c2, c3, c4, c5, c6, c7, c8, c9, c10, c11, c12, c13⟩ := cell14 HB5.out
  go_wp2_with fail
  refine (rput_at p b _ 4 (some ⟨v5.heap.size, 0, none⟩) [R.l, R.p, R.k] 3 3 _ rfl (HR5.out.kept (S := []) ((Kept.refl _ v5).alloc _) (by simp) (by simp)) (Vals.lit v5 [p, b] _ _ _ ([R.l, R.p, R.k].map I) rfl (by simp; omega)) (by omega)).mono ?_
  rintro e v6 ⟨rfl, hr, hk⟩
  rw [show ((4 : Int)) = ((4 : Nat) : Int) by rfl, rowF_put N _ 4 _ rfl HF.out.2.2.2.2.1 (by simp [bytesOf_length]; omega)] at hr
  have HR6 := hide hr
  have HB6 := hide (Kept.lit_blk _ hk HB5.out (by simp; omega))
  have HK6 := hide ((HK5.out.alloc _).trans hk (fun i hi => .inl hi))
  have hs6 := hk.size
  simp at hs6
  have hpw6 : p < v6.heap.size := by omega
  have hbw6 : b < v6.heap.size := by omega
  clear hr hk c0 c1 c2 c3 c4 c5 c6 c7 c8 c9 c10 c11 c12 c13 hs6 hpw5 hbw5 HR5 HB5 HK5
  have HS6 := hide (show Kept [p, b] v6 v6 ∧ v6.cell? ⟨g, 11, none⟩ = some (.slice X.A X.a X.ca) ∧ v6.cell? ⟨g, 12, none⟩ = some (.slice X.O X.o X.co) from ⟨Kept.refl _ _, HB6.out.cell 11, HB6.out.cell 12⟩)
  have HXW := hide (HXI.out.kept HK6.out (by simp))
  have HP7 : Hid ((rowF N (((((([75, 67] ++ bytesOf 4 [R.g, R.v]) ++ bytesOf 1 [R.m]) ++ bytesOf 4 [R.e, R.q, R.d]) ++ bytesOf 1 [R.s, R.o]) ++ bytesOf 4 [R.l, R.p, R.k]))).put 1 [bitsOf R.bs, bitsOf R.ov] = (true, rowF N R.lead)) := hide (rowF_put N _ 1 _ rfl HF.out.2.2.2.2.2 (by simp [bytesOf_length]; omega))
  go_wp2_with fail
  refine wp_region_noPanic ?_
  refine wp_region_held_drew (S := fun W => Kept [p, b] v6 W ∧ W.cell? ⟨g, 11, none⟩ = some (.slice X.A X.a X.ca) ∧ W.cell? ⟨g, 12, none⟩ = some (.slice X.O X.o X.co)) (by kernel_rfl) (by exact ⟨HS6.out.1.drew, HS6.out.2⟩) (fun hHeld => ?_)
  refine wpAnyH_take (i := 0) (oi := ⟨some 57, _, _, _, _, _⟩) (v := ?v1) rfl (by kernel_rfl) (by kernel_rfl) (by kernel_rfl) (fun _ _ _ h => h) (Or.inl ⟨by rfl, ?hy1⟩) (by assumption) ?rest1
  case hy1 => (intro W hSw; (try dsimp only at hSw); go_simp; try with_reducible rfl)
  try simp only [Act.put, List.setIfInBounds_toArray, List.set_cons_zero, List.set_cons_succ]
  refine wpAnyH_take (i := 1) (oi := ⟨some 58, _, _, _, _, _⟩) (v := ?v2) rfl (by kernel_rfl) (by kernel_rfl) (by kernel_rfl) (fun _ _ _ h => h) (Or.inl ⟨by rfl, ?hy2⟩) (by assumption) ?rest2
  case hy2 => (intro W hSw; (try dsimp only at hSw); go_simp; try with_reducible rfl)
  try simp only [Act.put, List.setIfInBounds_toArray, List.set_cons_zero, List.set_cons_succ]
  refine wpAnyH_take (i := 2) (oi := ⟨some 59, _, _, _, _, _⟩) (v := ?v3) rfl (by kernel_rfl) (by kernel_rfl) (by kernel_rfl) (fun _ _ _ h => h) (Or.inl ⟨by rfl, ?hy3⟩) (by assumption) ?rest3
  case hy3 => (intro W hSw; (try dsimp only at hSw); go_simp; try with_reducible rfl)
  try simp only [Act.put, List.setIfInBounds_toArray, List.set_cons_zero, List.set_cons_succ]
  refine wpAnyH_take (i := 4) (oi := ⟨some 61, _, _, _, _, _⟩) (v := ?v4) rfl (by kernel_rfl) (by kernel_rfl) (by kernel_rfl) (fun _ _ _ h => h) (Or.inl ⟨by rfl, ?hy4⟩) (by assumption) ?rest4
  case hy4 => (intro W hSw; (try dsimp only at hSw); go_simp; try with_reducible rfl)
  try simp only [Act.put, List.setIfInBounds_toArray, List.set_cons_zero, List.set_cons_succ]
  refine wpAnyH_take (i := 5) (oi := ⟨some 62, _, _, _, _, _⟩) (v := ?v5) rfl (by kernel_rfl) (by kernel_rfl) (by kernel_rfl) (fun _ _ _ h => h) (Or.inl ⟨by rfl, ?hy5⟩) (by assumption) ?rest5
  case hy5 => (intro W hSw; (try dsimp only at hSw); go_simp; try with_reducible rfl)
  try simp only [Act.put, List.setIfInBounds_toArray, List.set_cons_zero, List.set_cons_succ]
  refine held_one (i := 3) (o := ⟨some 60, _, _, _, _, _⟩) rfl (by kernel_rfl) (by rfl) (fun K hK => ?_)
  go_simp
  refine (rbits_any X.A X.a X.ca R.bs _ (Vals.kept (HXW.out.at_.bs) ((Kept.refl [] v6).drewN 1) (by simp)) HXW.out.ha HGO.out.bs (by have := HXW.out.ha; have := HGO.out.bl; omega)).mono ?_
  rintro e z1 ⟨rfl, rfl⟩
  refine hK.out _ _ (by exact hHeld) (fun hHeld => ?_)
  clear hK K
  try simp only [Act.put, List.setIfInBounds_toArray, List.set_cons_zero, List.set_cons_succ]
  refine held_one (i := 6) (o := ⟨some 63, _, _, _, _, _⟩) rfl (by kernel_rfl) (by rfl) (fun K hK => ?_)
  go_simp
  refine (rbits_any X.O X.o X.co R.ov _ (Vals.kept (HXW.out.at_.ov) ((Kept.refl [] v6).drewN 1) (by simp)) HXW.out.ho HGO.out.ov (by have := HXW.out.ho; have := HGO.out.ol; omega)).mono ?_
  rintro e z2 ⟨rfl, rfl⟩
  refine hK.out _ _ (by exact hHeld) (fun hHeld => ?_)
  clear hK K
  try simp only [Act.put, List.setIfInBounds_toArray, List.set_cons_zero, List.set_cons_succ]
  refine held_one (i := 7) (o := ⟨some 64, _, _, _, _, _⟩) rfl (by kernel_rfl) (by rfl) (fun K hK => ?_)
  go_simp
  refine hK.out _ _ (by exact lheld hHeld ((Kept.refl [] _).alloc _) (by simp) (by simp)) (fun hHeld => ?_)
  clear hK K
  try simp only [Act.put, List.setIfInBounds_toArray, List.set_cons_zero, List.set_cons_succ]
  refine held_one (i := 8) (o := ⟨some 65, _, _, _, _, _⟩) rfl (by kernel_rfl) (by rfl) (fun K hK => ?_)
  go_simp
  refine (rput_at p b _ 1 (some ⟨v6.heap.size, 0, none⟩) [bitsOf R.bs, bitsOf R.ov] 2 2 _ rfl ((HR6.out.drewN 1).kept (S := []) ((Kept.refl _ (v6.drewN 1)).alloc _) (by simp) (by simp)) (Vals.lit (v6.drewN 1) [p, b] _ _ _ ([bitsOf R.bs, bitsOf R.ov].map I) rfl (by simp; omega)) (by omega)).mono ?_
  rintro e v7 ⟨rfl, hr, hk⟩
  rw [HP7.out] at hr ⊢
  refine hK.out _ _ (by exact lheld hHeld hk (by simp) (by simp; omega)) (fun hHeld => ?_)
  clear hK K
  try simp only [Act.put, List.setIfInBounds_toArray, List.set_cons_zero, List.set_cons_succ]
  refine wpAnyH_done (by kernel_rfl) ?_ _
  refine NoPanic.normal ?_
  have HR7 : Hid (RefAt v7 p b (rowF N (R.lead ++ useBytes (R.us.take 0)))) := hide (by
    have h : RefAt v7 p b (rowF N R.lead) := hr
    rw [List.take_zero, show useBytes [] = [] from rfl, List.append_nil]
    exact h)
  have HB7 := hide (hHeld.1.blk HB6.out (by simp; omega))
  have HK7 := hide (HK6.out.trans hHeld.1 (fun i hi => .inl hi))
  have HX7 := hide (HXW.out.kept hHeld.1 (by simp))
  have hs7 := hHeld.1.size
  have hpw7 : p < v7.heap.size := by omega
  have hbw7 : b < v7.heap.size := by omega
  clear hr hk hHeld HS6 HXW HR6 HB6 HK6 hpw6 hbw6 hs7
  have c13 : v7.cell? ⟨g, 13, none⟩ = some (.slice X.U X.u X.cu) := HB7.out.cell 13
  have hxu := HXU.out
  obtain ⟨n, hn⟩ : ∃ n, D.n = n := ⟨_, rfl⟩
  rw [hn] at hxu hN43 hn32 HUL HXU
  have hus := HX7.out.us
  obtain ⟨U, hU⟩ : ∃ U, X.U = U := ⟨_, rfl⟩
  obtain ⟨cu, hcu⟩ : ∃ cu, X.cu = cu := ⟨_, rfl⟩
  rw [hU] at c13 hus
  rw [hxu, hcu] at c13
  have HU7 := hide hus
  have HC13 := hide c13
  clear hxu hus hU HX7 hcu c13 hn
  go_wp2
  go_loopw [7] (fun i wr => ∃ j : Nat, j ≤ n ∧ i = .int .i64 j ∧ Hid (RefAt wr p b (rowF N (R.lead ++ useBytes (R.us.take j)))) ∧ Hid (Kept [p, b] v7 wr)) (fun i wr => n - (intOf i).toNat)
  case atStart => exact ⟨0, by omega, rfl, HR7, hide (Kept.refl _ _)⟩
  case round =>
    obtain ⟨j, hj, rfl, HR, HK⟩ := hrel
    have c13 := HK.out.cell HC13.out (by simp; omega)
    have hsr := HK.out.size
    by_cases hlt : j < n
    · obtain ⟨u, hu⟩ : ∃ u, R.us[j]? = some u := ⟨_, List.getElem?_eq_getElem (by rw [HUL.out]; exact hlt)⟩
      obtain ⟨ad, hA, hnS, e0, e1⟩ := (HU7.out.kept HK.out (by simp)).at_ hu
      have HU0 := hide ((HU7.out.kept HK.out (by simp)).at_ hu)
      have HSN := hide (take_snoc hu)
      have hf := HFU.out u (List.mem_of_getElem? hu)
      have HF1 := hide hf.1
      have HF4 := hide hf.2
      have HTL := hide (take_len HUL.out hj)
      clear hf hu
      obtain ⟨ys, hys⟩ : ∃ ys, R.lead ++ useBytes (R.us.take j) = ys := ⟨_, rfl⟩
      rw [hys] at HTL HSN HR
      clear hys
      obtain ⟨s, t⟩ := u
      dsimp only at e0 e1 HSN HF1 HF4
      rw [hA] at c13
      have hlti : (j : Int) < (n : Int) := by omega
      have HAD := hide hnS
      have E1 := hide e1
      clear hnS e1
      go_wp2_with fail
      refine (rone_any p b _ _ 1 s _ HR.out (rput_one N _ 1 s rfl HF1.out (by rw [HTL.out]; omega))).mono ?_
      rintro e wb ⟨rfl, hr, hk⟩
      have HRB := hide hr
      have HKB := hide (HK.out.trans hk (fun i hi => .inl hi))
      have d13 := hk.cell c13 (by simp; omega)
      have e1 := hk.cell E1.out HAD.out
      clear hr hk HR c13 e0 E1
      go_wp2_with fail
      refine (rone_any p b _ _ 4 t _ HRB.out (rput_one N _ 4 t rfl HF4.out (by rw [List.length_append, HTL.out, bytesOf_length]; simp; omega))).mono ?_
      rintro e wc ⟨rfl, hr, hk⟩
      rw [HSN.out] at hr
      have HRC := hide hr
      have HKC := hide (HKB.out.trans hk (fun i hi => .inl hi))
      clear hr hk HRB d13 e1
      go_wp2
      go_roundw
      case rel => exact ⟨j + 1, by omega, by go_num, HRC, HKC⟩
      case measure => simp [intOf]; omega
    · obtain rfl : j = n := by omega
      have hr := HR.out
      rw [List.take_of_length_le (by rw [HUL.out]; exact Nat.le_refl _)] at hr
      have hre : RefAt wr p b (rowF N R.head) := hr
      have hhl : (rowF N R.head).bs.length = N := rowF_len _ _ (by rw [R.head_len, HUL.out]; omega)
      have q0 := hre.c0
      have q1 := hre.c1
      have qf := hre.f1
      rw [hhl] at q0
      obtain ⟨M, hM⟩ : ∃ M, N = M + 4 := ⟨N - 4, by omega⟩
      have g4 : IntKind.i64.wrap ((N : Int) - 4) = (M : Int) := by rw [show (N : Int) - 4 = (M : Int) by omega]; exact IntWalk.i64_in _ (by omega)
      have hgt := hre.goto M (by rw [hhl]; omega) (M : Int) rfl
      have hkg : Kept [p, b] wr (wr.setCell ⟨p, 1, none⟩ (.int .i64 (M : Int))) := (Kept.refl [p, b] wr).set_ (b := p) (.inl (by simp)) 1 _
      rw [HHZ.out] at hgt
      have HBM : Hid ((R.body D).length = M) := hide (by have := HBL.out; omega)
      have HNM := hide hM
      have HGT := hide hgt
      have HKG := hide (HK.out.trans hkg (fun i hi => .inl hi))
      have hMN : M ≤ N := by omega
      clear hr hre hgt hkg hM HR HK hhl
      have HQ1 := hide q1
      have HQF := hide qf
      go_wp2_with fail
      generalize wr.setCell ⟨p, 1, none⟩ (.int .i64 (M : Int)) = ws at *
      obtain ⟨bd, hbdy⟩ : ∃ bd, R.body D = bd := ⟨_, rfl⟩
      rw [hbdy] at HGT HBM HFL
      clear hbdy
      have hlN : (rowF N bd).bs.length = N := rowF_len _ _ (by have := HBM.out; omega)
      have hc0 := HGT.out.c0
      dsimp only at hc0
      rw [hlN] at hc0
      have hvs := (HGT.out.vals (S := []) (by simp)).first M
      dsimp only at hvs
      rw [← List.map_take, rowF_take N bd M HBM.out] at hvs
      have HVS := hide hvs
      have HST := hide (show Kept [p, b] ws ws ∧ ws.cell? ⟨p, 0, none⟩ = some (.slice (some ⟨b, 0, none⟩) N N) from ⟨Kept.refl _ _, hc0⟩)
      have HLF : Hid ((rowF N (bd ++ bytesOf 4 [(more 0 bd : Int)])).bs.length = N) := hide (rowF_len _ _ (by rw [List.length_append, bytesOf_length, HBM.out]; have := HNM.out; simp; omega))
      clear hvs hc0 hlN
      refine wp_region_noPanic ?_
      refine wp_region_held_drew (S := fun W => Kept [p, b] ws W ∧ W.cell? ⟨p, 0, none⟩ = some (.slice (some ⟨b, 0, none⟩) N N)) (by kernel_rfl) (by exact ⟨HST.out.1.drew, HST.out.2⟩) (fun hHeld => ?_)
      refine wpAnyH_take (i := 0) (oi := ⟨some 98, _, _, _, _, _⟩) (v := ?v6) rfl (by kernel_rfl) (by kernel_rfl) (by kernel_rfl) (fun _ _ _ h => h) (Or.inl ⟨by rfl, ?hy6⟩) (by assumption) ?rest6
      case hy6 => (intro W hSw; (try dsimp only at hSw); go_simp; try with_reducible rfl)
      try simp only [Act.put, List.setIfInBounds_toArray, List.set_cons_zero, List.set_cons_succ]
      refine wpAnyH_take (i := 1) (oi := ⟨some 99, _, _, _, _, _⟩) (v := ?v7) rfl (by kernel_rfl) (by kernel_rfl) (by kernel_rfl) (fun _ _ _ h => h) (Or.inl ⟨by rfl, ?hy7⟩) (by assumption) ?rest7
      case hy7 => (intro W hSw; (try dsimp only at hSw); go_simp; try with_reducible rfl)
      try simp only [Act.put, List.setIfInBounds_toArray, List.set_cons_zero, List.set_cons_succ]
      refine wpAnyH_take (i := 2) (oi := ⟨some 100, _, _, _, _, _⟩) (v := ?v8) rfl (by kernel_rfl) (by kernel_rfl) (by kernel_rfl) (fun _ _ _ h => h) (Or.inl ⟨by rfl, ?hy8⟩) (by assumption) ?rest8
      case hy8 => (intro W hSw; (try dsimp only at hSw); go_simp; try with_reducible rfl)
      try simp only [Act.put, List.setIfInBounds_toArray, List.set_cons_zero, List.set_cons_succ]
      refine wpAnyH_take (i := 3) (oi := ⟨some 101, _, _, _, _, _⟩) (v := ?v9) rfl (by kernel_rfl) (by kernel_rfl) (by kernel_rfl) (fun _ _ _ h => h) (Or.inl ⟨by rfl, ?hy9⟩) (by assumption) ?rest9
      case hy9 => (intro W hSw; (try dsimp only at hSw); go_simp; try with_reducible rfl)
      try simp only [Act.put, List.setIfInBounds_toArray, List.set_cons_zero, List.set_cons_succ]
      refine wpAnyH_take (i := 4) (oi := ⟨some 102, _, _, _, _, _⟩) (v := ?v10) rfl (by kernel_rfl) (by kernel_rfl) (by kernel_rfl) (fun _ _ _ h => h) (Or.inl ⟨by rfl, ?hy10⟩) (by assumption) ?rest10
      case hy10 => (intro W hSw; (try dsimp only at hSw); go_simp; try with_reducible rfl)
      try simp only [Act.put, List.setIfInBounds_toArray, List.set_cons_zero, List.set_cons_succ]
      refine wpAnyH_take (i := 5) (oi := ⟨some 103, _, _, _, _, _⟩) (v := ?v11) rfl (by kernel_rfl) (by kernel_rfl) (by kernel_rfl) (fun _ _ _ h => h) (Or.inl ⟨by rfl, ?hy11⟩) (by assumption) ?rest11
      case hy11 => (intro W hSw; (try dsimp only at hSw); go_simp; try with_reducible rfl)
      try simp only [Act.put, List.setIfInBounds_toArray, List.set_cons_zero, List.set_cons_succ]
      refine wpAnyH_take (i := 6) (oi := ⟨some 104, _, _, _, _, _⟩) (v := ?v12) rfl (by kernel_rfl) (by kernel_rfl) (by kernel_rfl) (fun _ _ _ h => h) (Or.inl ⟨by rfl, ?hy12⟩) (by assumption) ?rest12
      case hy12 => (intro W hSw; (try dsimp only at hSw); go_simp; try with_reducible rfl)
      try simp only [Act.put, List.setIfInBounds_toArray, List.set_cons_zero, List.set_cons_succ]
      refine wpAnyH_take (i := 7) (oi := ⟨some 105, _, _, _, _, _⟩) (v := ?v13) rfl (by kernel_rfl) (by kernel_rfl) (by kernel_rfl) (fun _ _ _ h => h) (Or.inl ⟨by rfl, ?hy13⟩) (by assumption) ?rest13
      case hy13 => (intro W hSw; (try dsimp only at hSw); go_simp; try with_reducible rfl)
      try simp only [Act.put, List.setIfInBounds_toArray, List.set_cons_zero, List.set_cons_succ]
      refine wpAnyH_take (i := 8) (oi := ⟨some 106, _, _, _, _, _⟩) (v := ?v14) rfl (by kernel_rfl) (by kernel_rfl) (by kernel_rfl) (fun _ _ _ h => h) (Or.inl ⟨by rfl, ?hy14⟩) (by assumption) ?rest14
      case hy14 => (intro W hSw; (try dsimp only at hSw); go_simp; try with_reducible rfl)
      try simp only [Act.put, List.setIfInBounds_toArray, List.set_cons_zero, List.set_cons_succ]
      refine wpAnyH_take (i := 9) (oi := ⟨some 107, _, _, _, _, _⟩) (v := ?v15) rfl (by kernel_rfl) (by kernel_rfl) (by kernel_rfl) (fun _ _ _ h => h) (Or.inl ⟨by rfl, ?hy15⟩) (by assumption) ?rest15
      case hy15 => (intro W hSw; (try dsimp only at hSw); go_simp; try with_reducible rfl)
      try simp only [Act.put, List.setIfInBounds_toArray, List.set_cons_zero, List.set_cons_succ]
      refine wpAnyH_take (i := 10) (oi := ⟨some 108, _, _, _, _, _⟩) (v := ?v16) rfl (by kernel_rfl) (by kernel_rfl) (by kernel_rfl) (fun _ _ _ h => h) (Or.inl ⟨by rfl, ?hy16⟩) (by assumption) ?rest16
      case hy16 => (intro W hSw; (try dsimp only at hSw); go_simp; try with_reducible rfl)
      try simp only [Act.put, List.setIfInBounds_toArray, List.set_cons_zero, List.set_cons_succ]
      refine wpAnyH_take (i := 11) (oi := ⟨some 109, _, _, _, _, _⟩) (v := ?v17) rfl (by kernel_rfl) (by kernel_rfl) (by kernel_rfl) (fun _ _ _ h => h) (Or.inl ⟨by rfl, ?hy17⟩) (by assumption) ?rest17
      case hy17 => (intro W hSw; (try dsimp only at hSw); go_simp; try with_reducible rfl)
      try simp only [Act.put, List.setIfInBounds_toArray, List.set_cons_zero, List.set_cons_succ]
      refine held_one (i := 12) (o := ⟨some 110, _, _, _, _, _⟩) rfl (by kernel_rfl) (by rfl) (fun K hK => ?_)
      go_simp
      refine (rsum_any (some ⟨b, 0, none⟩) M N bd _ (Vals.kept HVS.out ((Kept.refl [] ws).drewN 1) (by simp)) HBM.out (by omega)).mono ?_
      rintro e z3 ⟨rfl, rfl⟩
      refine hK.out _ _ (by exact hHeld) (fun hHeld => ?_)
      clear hK K
      try simp only [Act.put, List.setIfInBounds_toArray, List.set_cons_zero, List.set_cons_succ]
      refine held_one (i := 13) (o := ⟨some 111, _, _, _, _, _⟩) rfl (by kernel_rfl) (by rfl) (fun K hK => ?_)
      go_simp
      refine (rone_any p b _ _ 4 (more 0 bd : Int) _ (HGT.out.drewN 1) (put_last N M bd _ HBM.out HNM.out (sum_fits bd))).mono ?_
      rintro e wz ⟨rfl, hr, hk⟩
      refine hK.out _ _ (by exact ref_held hHeld hk (by simp) (by have h := hr.c0; rw [HLF.out] at h; exact h)) (fun hHeld => ?_)
      clear hK K
      try simp only [Act.put, List.setIfInBounds_toArray, List.set_cons_zero, List.set_cons_succ]
      refine wpAnyH_done (by kernel_rfl) ?_ _
      refine NoPanic.normal ?_
      have ha := hr.2.1
      rw [HLF.out] at ha
      have hfl : (rowF N (bd ++ bytesOf 4 [(more 0 bd : Int)])).bs = R.bytes D := HFL.out
      rw [hfl] at ha
      have HAW := hide ha
      have HKZ := hide ((HK3.out.trans HK7.out (by simp; omega)).trans (HKG.out.trans hHeld.1 (fun i hi => .inl hi)) (by simp; omega))
      have d0 := hHeld.2
      clear hr hk ha hfl
      go_wp2
      go_ret2
      exact ⟨b, rfl, HAW.out, HKZ.out⟩

theorem rbytes_any (D : Dv) (hD : D.ok) (R : Rg) (X : Sl) (w : World) (h : RgIn w [] X R) (hs : X.small) :
    Calls Try.prog 10 #[.agg #[.int .i64 D.b, .int .i64 D.n, .int .i64 D.z], R.val X] w fun e w' => ∃ A n c', e = .returned (.tuple #[.slice A n c', .int .i64 (encode D R).2]) ∧ n = (encode D R).1.length ∧ Vals w' [] A ((encode D R).1.map B) ∧ Kept [] w w' := by
  by_cases hm : R.may D = true
  · have e : encode D R = (R.bytes D, 0) := if_pos hm
    rw [e]
    exact (rbytes_yes D hD R X w h hs hm).mono fun _ _ ⟨b, h1, h2, h3⟩ => ⟨_, 64 * D.r, _, h1, (Rg.bytes_len hD ((R.may_iff D).1 hm)).symm, h2.vals (by simp), h3⟩
  · have e : encode D R = ([], 1) := if_neg hm
    rw [e]
    exact (rbytes_no D hD R X w h hs ((Bool.not_eq_true _).mp hm)).mono fun _ _ ⟨h1, h3⟩ => ⟨none, 0, 0, h1, rfl, Vals.nil _ _ _, h3⟩
end Go.Proofs.Ythacnlpdodlggaa.rg
