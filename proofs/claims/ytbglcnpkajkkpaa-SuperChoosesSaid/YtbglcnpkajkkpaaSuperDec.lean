/- Package super: get, read, Decode. -/
import Derived.Test.YtbglcnpkajkkpaaSuperEnc
import Derived.Test.YtbglcnpkajkkpaaBytesEq
import Derived.Test.YtbglcnpkajkkpaaHeld
namespace Go.Proofs.Ytbglcnpkajkkpaa.super
open Go.RowKit Go.Proofs.Ytbglcnpkajkkpaa.mem Go.Proofs.Ytbglcnpkajkkpaa.base Go.Proofs.Ytbglcnpkajkkpaa.row Go.Proofs.Ytbglcnpkajkkpaa.rowBack Go.Proofs.Ytbglcnpkajkkpaa.fill Go.Proofs.Ytbglcnpkajkkpaa.crc Go.Proofs.Ytbglcnpkajkkpaa.crcMath

theorem sget_any (p b cap : Nat) (A : Option Addr) (R R' : Row) (x y : Int) (w : World) (h : RowAt w p b cap A R) (hR : (R.get x).2.2 = R') (hy : (R.get x).1 = y) :
    Calls Try.prog 51 #[.pointer (some ⟨p, 0, none⟩), .int .i64 x] w fun e w' => e = .returned (.int .i64 y) ∧ RowAt w' p b cap A R' ∧ Kept [p] w w' := by
  have H := hide h
  have HY := hide hy
  have HRR := hide hR
  clear h hy hR
  go_enter Try.func51, Try.ntmps51
  go_wp2_with fail
  refine (row.get_at p b cap A R x _ H.out).mono ?_
  rintro e w1 ⟨rfl, hr, hk⟩
  rw [HRR.out] at hr
  rw [HY.out]
  have HR := hide hr
  have HK := hide hk
  clear hr hk
  go_wp2
  go_ret
  exact ⟨rfl, HR.out, HK.out⟩

theorem readOf_k (bs : List UInt8) : ((r0 bs).get 1).1 = (readOf bs).k := by simp only [readOf]
theorem readOf_s (bs : List UInt8) : ((r1 bs).get 1).1 = (readOf bs).s := by simp only [readOf]
theorem readOf_l (bs : List UInt8) : ((r2 bs).get 1).1 = (readOf bs).l := by simp only [readOf]
theorem readOf_i (bs : List UInt8) : ((r3 bs).get 4).1 = (readOf bs).i := by simp only [readOf]
theorem readOf_m (bs : List UInt8) : ((r4 bs).get 4).1 = (readOf bs).m := by simp only [readOf]
theorem r1_eq (bs : List UInt8) : ((r0 bs).get 1).2.2 = r1 bs := by simp only [r1]
theorem r2_eq (bs : List UInt8) : ((r1 bs).get 1).2.2 = r2 bs := by simp only [r2]
theorem r3_eq (bs : List UInt8) : ((r2 bs).get 1).2.2 = r3 bs := by simp only [r3]
theorem r4_eq (bs : List UInt8) : ((r3 bs).get 4).2.2 = r4 bs := by simp only [r4]
theorem rheld {w6 W W' : World} {p g q : Nat} {x y z : Value} (hq : p < q) (hg : g ≠ q) (h : Kept [p, g] w6 W ∧ W.cell? ⟨q, 0, none⟩ = some x ∧ W.cell? ⟨q, 1, none⟩ = some y ∧ W.cell? ⟨q, 2, none⟩ = some z) (hk : Kept [p, g] W W') :
    Kept [p, g] w6 W' ∧ W'.cell? ⟨q, 0, none⟩ = some x ∧ W'.cell? ⟨q, 1, none⟩ = some y ∧ W'.cell? ⟨q, 2, none⟩ = some z :=
  have hn : q ∉ [p, g] := by simp; omega
  ⟨h.1.trans hk (by simp), hk.cell h.2.1 hn, hk.cell h.2.2.1 hn, hk.cell h.2.2.2 hn⟩

set_option maxRecDepth 100000 in
set_option maxHeartbeats 1000000 in
theorem read_any (A : Option Addr) (n c : Nat) (bs : List UInt8) (w : World) (hv : Vals w [] A (bs.map B)) (hl : bs.length = n) (hA : A = none → c = 0) (hn : n ≤ 65536) :
    Calls Try.prog 26 #[.slice A n c] w fun e w' => e = .returned (readOf bs).val ∧ Kept [] w w' := by
  have HV := hide hv
  have HA := hide hA
  subst hl
  clear hv hA

  have HB0 := hide (Blk.new w 25 #[.int .i64 0, .int .i64 0, .int .i64 0, .int .i64 0, .int .i64 0])
  have HK0 := hide ((Kept.refl [] w).alloc (.cells #[.int .i64 0, .int .i64 0, .int .i64 0, .int .i64 0, .int .i64 0] 25))
  go_enter Try.func26, Try.ntmps26
  go_wp2_with fail
  refine (from_at A c bs _ (HV.out.kept HK0.out (by simp)) HA.out hn).mono ?_
  rintro e w1 ⟨p, b, cap, A', rfl, hp, hb, hb1, hr, hk⟩
  have HR1 := hide hr
  have HK1 := hide (HK0.out.trans hk (by simp))
  have HB1 := hide (hk.blk HB0.out (by simp))
  have hp1 := hr.lt
  obtain ⟨g, hg⟩ : ∃ g, w.heap.size = g := ⟨_, rfl⟩
  have hpg : g < p := by simp at hp; omega
  have hbg : g < b := by simp at hb; omega
  clear hr hk hp hb HB0 HK0
  rw [hg] at HB1 ⊢
  go_wp2_with fail
  refine (take_at p b cap A' _ 2 _ HR1.out).mono ?_
  rintro e w2 ⟨A2, c2, rfl, _, hr, hk⟩
  have HR2 : Hid (RowAt w2 p b cap A' (r0 bs)) := hide hr
  have HK2 := hide (HK1.out.trans hk (by simp; omega))
  have HB2 := hide (hk.blk HB1.out (by simp; omega))
  have hs2 := hk.size
  clear hr hk HR1 HK1 HB1
  go_wp2_with fail
  refine (sget_any p b cap A' _ (r1 bs) 1 (readOf bs).k _ HR2.out (r1_eq bs) (readOf_k bs)).mono ?_
  rintro e w3 ⟨rfl, hr, hk⟩
  have HR3 := hide hr
  have HK3 := hide (HK2.out.trans hk (by simp; omega))
  have HB3 := hide (hk.blk HB2.out (by simp; omega))
  have hs3 := hk.size
  clear hr hk HR2 HK2 HB2
  go_wp2_with fail
  refine (sget_any p b cap A' _ (r2 bs) 1 (readOf bs).s _ HR3.out (r2_eq bs) (readOf_s bs)).mono ?_
  rintro e w4 ⟨rfl, hr, hk⟩
  have HR4 := hide hr
  have HK4 := hide (HK3.out.trans hk (by simp; omega))
  have HB4 := hide (hk.blk HB3.out (by simp; omega))
  have hs4 := hk.size
  clear hr hk HR3 HK3 HB3
  go_wp2_with fail
  refine (sget_any p b cap A' _ (r3 bs) 1 (readOf bs).l _ HR4.out (r3_eq bs) (readOf_l bs)).mono ?_
  rintro e w5 ⟨rfl, hr, hk⟩
  have HR5 := hide hr
  have HK5 := hide (HK4.out.trans hk (by simp; omega))
  have HB5 := hide (hk.blk HB4.out (by simp; omega))
  have hs5 := hk.size
  clear hr hk HR4 HK4 HB4
  go_wp2
  obtain ⟨u, hu⟩ : ∃ u : Su, readOf bs = u := ⟨_, rfl⟩
  have e4 : (Row.get (r3 bs) 4).1 = u.i := by rw [← hu]; exact readOf_i bs
  have e5 : (Row.get (r4 bs) 4).1 = u.m := by rw [← hu]; exact readOf_m bs
  have HU := hide hu
  rw [hu]
  have E4 := hide e4
  have E5 := hide e5
  clear e4 e5 hu
  obtain ⟨q, hq⟩ : ∃ q, w5.heap.size = q := ⟨_, rfl⟩
  have hk6 : Kept [] w5 (w5.alloc (.cells #[.int .i64 u.k, .int .i64 u.s, .int .i64 u.l] 23)) := (Kept.refl [] w5).alloc _
  have hb6 : Blk (w5.alloc (.cells #[.int .i64 u.k, .int .i64 u.s, .int .i64 u.l] 23)) q _ _ := hq ▸ Blk.new w5 23 #[.int .i64 u.k, .int .i64 u.s, .int .i64 u.l]
  rw [hq]
  generalize (w5.alloc (.cells #[.int .i64 u.k, .int .i64 u.s, .int .i64 u.l] 23)) = w6 at *
  have HR6 := hide ((HR5.out.kept hk6 (by simp) (by simp)).drewN 1)
  have HK6 := hide (HK5.out.trans hk6 (by simp))
  have HB6 := hide (hk6.blk HB5.out (by simp))
  have HQ6 := hide hb6
  have hlt : g < q := by have := HB5.out.lt; omega
  have hqp : p < q := by have := HR5.out.lt; omega
  clear hk6 hb6 HR5 HK5 HB5
  have c0 : w6.cell? ⟨q, 0, none⟩ = some (.int .i64 u.k) := HQ6.out.cell 0
  have c1 : w6.cell? ⟨q, 1, none⟩ = some (.int .i64 u.s) := HQ6.out.cell 1
  have c2 : w6.cell? ⟨q, 2, none⟩ = some (.int .i64 u.l) := HQ6.out.cell 2
  have hqg : g ≠ q := by omega
  -- REGION read
  refine wp_region_noPanic ?_
  refine wp_region_held_drew (S := fun W => Kept [p, g] w6 W ∧ W.cell? ⟨q, 0, none⟩ = some (.int .i64 u.k) ∧ W.cell? ⟨q, 1, none⟩ = some (.int .i64 u.s) ∧ W.cell? ⟨q, 2, none⟩ = some (.int .i64 u.l)) (by kernel_rfl) (by exact ⟨(Kept.refl _ w6).drew, c0, c1, c2⟩) (fun hHeld => ?_)
  refine wpAnyH_take (i := 0) (oi := ⟨some 16, _, _, _, _, _⟩) (v := ?v1) rfl (by kernel_rfl) (by kernel_rfl) (by kernel_rfl) (fun _ _ _ h => h) (Or.inl ⟨by rfl, ?hy1⟩) (by assumption) ?rest1
  case hy1 => (intro W hSw; (try dsimp only at hSw); go_simp; try with_reducible rfl)
  try simp only [Act.put, List.setIfInBounds_toArray, List.set_cons_zero, List.set_cons_succ]
  refine wpAnyH_take (i := 1) (oi := ⟨some 17, _, _, _, _, _⟩) (v := ?v2) rfl (by kernel_rfl) (by kernel_rfl) (by kernel_rfl) (fun _ _ _ h => h) (Or.inl ⟨by rfl, ?hy2⟩) (by assumption) ?rest2
  case hy2 => (intro W hSw; (try dsimp only at hSw); go_simp; try with_reducible rfl)
  try simp only [Act.put, List.setIfInBounds_toArray, List.set_cons_zero, List.set_cons_succ]
  refine wpAnyH_take (i := 3) (oi := ⟨some 19, _, _, _, _, _⟩) (v := ?v3) rfl (by kernel_rfl) (by kernel_rfl) (by kernel_rfl) (fun _ _ _ h => h) (Or.inl ⟨by rfl, ?hy3⟩) (by assumption) ?rest3
  case hy3 => (intro W hSw; (try dsimp only at hSw); go_simp; try with_reducible rfl)
  try simp only [Act.put, List.setIfInBounds_toArray, List.set_cons_zero, List.set_cons_succ]
  refine held_one (i := 2) (o := ⟨some 18, _, _, _, _, _⟩) rfl (by kernel_rfl) (by rfl) (fun K hK => ?_)
  go_simp
  refine (sget_any p b cap A' _ (r4 bs) 4 u.i _ HR6.out (r4_eq bs) E4.out).mono ?_
  rintro e w7 ⟨rfl, hr7, hk7⟩
  have hb7 := hk7.blk (HB6.out.drewN 1) (by simp; omega)
  refine hK.out _ _ (by exact rheld hqp hqg hHeld (hk7.mono (by simp))) (fun hHeld => ?_)
  clear hK K
  try simp only [Act.put, List.setIfInBounds_toArray, List.set_cons_zero, List.set_cons_succ]
  refine held_one (i := 4) (o := ⟨some 20, _, _, _, _, _⟩) rfl (by kernel_rfl) (by rfl) (fun K hK => ?_)
  go_simp
  refine (sget_any p b cap A' _ _ 4 u.m _ hr7 rfl E5.out).mono ?_
  rintro e w8 ⟨rfl, hr8, hk8⟩
  have hb8 := hk8.blk hb7 (by simp; omega)
  refine hK.out _ _ (by exact rheld hqp hqg hHeld (hk8.mono (by simp))) (fun hHeld => ?_)
  clear hK K
  try simp only [Act.put, List.setIfInBounds_toArray, List.set_cons_zero, List.set_cons_succ]
  refine wpAnyH_take (i := 5) (oi := ⟨some 21, _, _, _, _, _⟩) (v := ?v4) rfl (by kernel_rfl) (by kernel_rfl) (by kernel_rfl) (fun _ _ _ h => h) (Or.inl ⟨by rfl, ?hy4⟩) (by assumption) ?rest4
  case hy4 => (intro W hSw; (try dsimp only at hSw); go_simp; try with_reducible rfl)
  try simp only [Act.put, List.setIfInBounds_toArray, List.set_cons_zero, List.set_cons_succ]
  refine held_one (i := 6) (o := ⟨none, _, _, _, _, _⟩) rfl (by kernel_rfl) (by rfl) (fun K hK => ?_)
  have c0 := hb8.cell 0
  have c1 := hb8.cell 1
  have c2 := hb8.cell 2
  have c3 := hb8.cell 3
  have c4 := hb8.cell 4
  have f0 := hb8.frozen 0
  have f1 := hb8.frozen 1
  have f2 := hb8.frozen 2
  have f3 := hb8.frozen 3
  have f4 := hb8.frozen 4
  go_simp
  have hks : Kept [p, g] w8 (((((w8.setCell ⟨g, 0, none⟩ (.int .i64 u.k)).setCell ⟨g, 1, none⟩ (.int .i64 u.s)).setCell ⟨g, 2, none⟩ (.int .i64 u.l)).setCell ⟨g, 3, none⟩ (.int .i64 u.i)).setCell ⟨g, 4, none⟩ (.int .i64 u.m)) := ((((((Kept.refl [p, g] w8).set_ (b := g) (.inl (by simp)) 0 (.int .i64 u.k)).set_ (b := g) (.inl (by simp)) 1 (.int .i64 u.s)).set_ (b := g) (.inl (by simp)) 2 (.int .i64 u.l)).set_ (b := g) (.inl (by simp)) 3 (.int .i64 u.i)).set_ (b := g) (.inl (by simp)) 4 (.int .i64 u.m))
  have hbs : Blk (((((w8.setCell ⟨g, 0, none⟩ (.int .i64 u.k)).setCell ⟨g, 1, none⟩ (.int .i64 u.s)).setCell ⟨g, 2, none⟩ (.int .i64 u.l)).setCell ⟨g, 3, none⟩ (.int .i64 u.i)).setCell ⟨g, 4, none⟩ (.int .i64 u.m)) g 25 #[.int .i64 u.k, .int .i64 u.s, .int .i64 u.l, .int .i64 u.i, .int .i64 u.m] := (((((hb8.set_ 0 (.int .i64 u.k)).set_ 1 (.int .i64 u.s)).set_ 2 (.int .i64 u.l)).set_ 3 (.int .i64 u.i)).set_ 4 (.int .i64 u.m))
  generalize (((((w8.setCell ⟨g, 0, none⟩ (.int .i64 u.k)).setCell ⟨g, 1, none⟩ (.int .i64 u.s)).setCell ⟨g, 2, none⟩ (.int .i64 u.l)).setCell ⟨g, 3, none⟩ (.int .i64 u.i)).setCell ⟨g, 4, none⟩ (.int .i64 u.m)) = w9 at hks hbs ⊢
  refine hK.out _ _ (by exact rheld hqp hqg hHeld hks) (fun hHeld => ?_)
  clear hK K
  try simp only [Act.put, List.setIfInBounds_toArray, List.set_cons_zero, List.set_cons_succ]
  refine wpAnyH_done (by kernel_rfl) ?_ _
  refine NoPanic.normal ?_
  -- END
  have HK9 := hide (HK6.out.trans hHeld.1 (by simp; omega))
  have r0' : w9.cell? ⟨g, 0, none⟩ = some (.int .i64 u.k) := hbs.cell 0
  have r1' : w9.cell? ⟨g, 1, none⟩ = some (.int .i64 u.s) := hbs.cell 1
  have r2' : w9.cell? ⟨g, 2, none⟩ = some (.int .i64 u.l) := hbs.cell 2
  have r3' : w9.cell? ⟨g, 3, none⟩ = some (.int .i64 u.i) := hbs.cell 3
  have r4' : w9.cell? ⟨g, 4, none⟩ = some (.int .i64 u.m) := hbs.cell 4
  go_wp2
  refine bodyPost_ret (v := u.val) (by simp [results, Try.results26, go_sem, r0', r1', r2', r3', r4', Su.val]) rfl ⟨by rw [HU.out], HK9.out⟩
end Go.Proofs.Ytbglcnpkajkkpaa.super
