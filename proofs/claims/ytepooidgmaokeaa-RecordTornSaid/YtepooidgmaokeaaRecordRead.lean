/- Package record: read (its region that draws is filled in by tools/genrread.py). -/
import Derived.Test.YtepooidgmaokeaaRecordLead
import Derived.Test.YtepooidgmaokeaaCrcCore
import Derived.Test.YtepooidgmaokeaaItemCore
namespace Go.Proofs.Ytepooidgmaokeaa.record
open Go.RowKit Go.Proofs.Ytepooidgmaokeaa.mem Go.Proofs.Ytepooidgmaokeaa.base Go.Proofs.Ytepooidgmaokeaa.row Go.Proofs.Ytepooidgmaokeaa.rowBack Go.Proofs.Ytepooidgmaokeaa.fill Go.Proofs.Ytepooidgmaokeaa.crc Go.Proofs.Ytepooidgmaokeaa.crcMath Go.Proofs.Ytepooidgmaokeaa.super Go.Proofs.Ytepooidgmaokeaa.item

theorem take_le (R : Row) (n : Nat) : (R.take n).1.length ≤ n := by
  unfold Row.take
  split
  · exact Nat.le_trans (List.length_take_le _ _) (by rw [Int.toNat_natCast]; exact Nat.le_refl _)
  · exact Nat.zero_le _
theorem sm_le (bs : List UInt8) : (sm bs).length ≤ 64 := take_le ⟨bs, 0⟩ 64
theorem raw_le (s : List UInt8) : (raw s).length ≤ 1785 := by
  have h := cn_bd s
  obtain ⟨q, hq⟩ : ∃ q : Nat, cn s = q := ⟨(cn s).toNat, by omega⟩
  unfold raw
  rw [hq, show (7 * (q : Int)) = ((7 * q : Nat) : Int) by omega]
  exact Nat.le_trans (take_le _ _) (by omega)
theorem taken_le (R : Row) (i : Nat) : (taken R i).length ≤ 64 := take_le _ 64

theorem rdheld {w0 W W' : World} {p g q : Nat} {v : Value} (hgp : g ≠ p) (hgq : g ≠ q) (h : Kept [p, q] w0 W ∧ W.cell? ⟨g, 4, none⟩ = some v) (hk : Kept [p, q] W W') : Kept [p, q] w0 W' ∧ W'.cell? ⟨g, 4, none⟩ = some v :=
  ⟨h.1.trans hk (fun i hi => .inl hi), hk.cell h.2 (by simp; exact ⟨hgp, hgq⟩)⟩

set_option maxRecDepth 100000 in
set_option maxHeartbeats 2000000 in
theorem read_far (q : Nat) (A : Option Addr) (n c : Nat) (bs : List UInt8) (w : World) (hq : q < w.heap.size) (hv : Vals w [] A (bs.map B)) (hl : bs.length = n) (hA : A = none → c = 0) (hn : n ≤ 65536) :
    Calls Try.prog 46 #[.slice A n c] w fun e w' => ∃ (L : Option Addr) (m lc : Nat) (P : Option Addr) (k pc : Nat),
      e = .returned (.agg #[.int .i64 (readC bs).m, .int .i64 (readC bs).l, .int .i64 (readC bs).p, .slice L m lc, .slice P k pc]) ∧ RcIn w' [q] L m P k (readC bs) ∧ Kept [] w w' := by
  have HV := hide hv
  have HA := hide hA
  have HL := hide hl
  clear hv hA hl
  have hk0 := (Kept.refl [] w).alloc (.cells #[.int .i64 0, .int .i64 0, .int .i64 0, .slice none 0 0, .slice none 0 0] 25)
  have hb0 := Blk.new w 25 #[.int .i64 0, .int .i64 0, .int .i64 0, .slice none 0 0, .slice none 0 0]
  have hlt := hb0.lt
  obtain ⟨g, hg⟩ : ∃ g, w.heap.size = g := ⟨_, rfl⟩
  have HG := hide (Nat.le_of_eq hg)
  rw [hg] at hb0 hlt
  have HB0 := hide hb0
  have HK0 := hide hk0
  clear hb0 hk0
  go_enter Try.func46, Try.ntmps46
  go_wp2_with fail
  rw [← HL.out]
  refine (from_at A c bs _ (HV.out.kept HK0.out (by simp)) HA.out (by rw [HL.out]; exact hn)).mono ?_
  rintro e w1 ⟨p, b, cap, A1, rfl, hp, hb, hb1, hr, hk⟩
  have HR1 := hide hr
  have HK1 := hide (HK0.out.trans hk (by simp))
  have HB1 := hide (hk.blk HB0.out (by simp))
  have hp1 := hr.lt
  have hgp : g < p := by omega
  have hgb : g < b := by omega
  clear hr hk hp hb HB0 HK0
  go_wp2_with fail
  refine (take_at p b cap A1 _ 64 _ HR1.out).mono ?_
  rintro e w2 ⟨A2, c2, rfl, hnb, hr, hk⟩
  have HR2 : Hid (RowAt w2 p b cap A1 (a1 bs)) := hide hr
  have HV2 : Hid (Vals w2 [] A2 ((sm bs).map B)) := hide (hnb.vals (by simp))
  have HA2 : Hid (A2 = none → c2 = 0) := hide hnb.nil0
  have HK2 := hide (HK1.out.trans hk (by simp; omega))
  have HB2 := hide (hk.blk HB1.out (by simp; omega))
  have hs2 := hk.size
  clear hr hk hnb HR1 HK1 HB1
  obtain ⟨s, hs⟩ : ∃ s, sm bs = s := ⟨_, rfl⟩
  have HS := hide hs
  have hsl := sm_le bs
  rw [hs] at HV2 hsl
  rw [show (Row.take ⟨bs, 0⟩ 64).1 = s from hs]
  clear hs
  go_wp2_with fail
  refine (from_at A2 c2 s _ HV2.out HA2.out (by omega)).mono ?_
  rintro e w3 ⟨p2, b2, cap2, A3, rfl, hp2, hb2, hb3, hr, hk⟩
  have hp2w := HR2.out.lt
  have HL3 := hide hr
  have HR3 := hide (HR2.out.kept hk (by simp) (by simp))
  have HK3 := hide (HK2.out.trans hk (by simp))
  have HB3 := hide (hk.blk HB2.out (by simp))
  have hpp2 : p < p2 := by omega
  have hbp2 : b < p2 := by omega
  have hpb2 : p < b2 := by omega
  clear hr hk HR2 HK2 HB2 HV2 HA2 hp2 hb2
  go_wp2_with fail
  refine (readLead_any p2 b2 cap2 A3 s _ HL3.out hb3).mono ?_
  rintro e w4 ⟨rfl, hr, hk⟩
  obtain ⟨x1, hx1⟩ : ∃ x, cm s = x := ⟨_, rfl⟩
  obtain ⟨x2, hx2⟩ : ∃ x, cl s = x := ⟨_, rfl⟩
  obtain ⟨x3, hx3⟩ : ∃ x, cp s = x := ⟨_, rfl⟩
  obtain ⟨nn, hnn⟩ : ∃ nn : Nat, cn s = nn := ⟨(cn s).toNat, by have := cn_bd s; omega⟩
  obtain ⟨k, hkk⟩ : ∃ k : Nat, ck s = k := ⟨(ck s).toNat, by have := ck_bd s; omega⟩
  have hnn2 : nn < 256 := by have := cn_bd s; omega
  have hkk2 : k < 256 := by have := ck_bd s; omega
  obtain ⟨r, hraw⟩ : ∃ r, raw s = r := ⟨_, rfl⟩
  have hrl : r.length ≤ 1785 := by rw [← hraw]; exact raw_le s
  have hrw : (Row.take (q5 s) (7 * (nn : Int))).1 = r := by rw [← hnn]; exact hraw
  obtain ⟨its, hits⟩ : ∃ its, (item.decode r).1 = its := ⟨_, rfl⟩
  have hrc : readC bs = ⟨x1, x2, x3, its, takes (a1 bs) k⟩ := by
    unfold readC
    rw [HS.out, hx1, hx2, hx3, hraw, hits, hkk, Int.toNat_natCast]
  have HRC := hide hrc
  rw [hx1, hx2, hx3, hnn, hkk]
  have hb5 := Blk.new w4 25 #[.int .i64 x1, .int .i64 x2, .int .i64 x3, .slice none 0 0, .slice none 0 0]
  have hk5 := (Kept.refl [] w4).alloc (.cells #[.int .i64 x1, .int .i64 x2, .int .i64 x3, .slice none 0 0, .slice none 0 0] 25)
  have hp4 := hr.lt
  have hb4 := (hk.size : w3.heap.size ≤ w4.heap.size)
  obtain ⟨g7, hg7⟩ : ∃ g7, w4.heap.size = g7 := ⟨_, rfl⟩
  have HG7 := hide hb5
  have HL5 := hide (hr.kept hk5 (by simp) (by simp))
  have HR5 := hide ((HR3.out.kept hk (by simp; omega) (by simp; omega)).kept hk5 (by simp) (by simp))
  have HK5 := hide ((HK3.out.trans hk (by have := HK3.out.size; have := HG.out; simp; omega)).trans hk5 (by simp))
  have HB5 := hide (hk5.blk (hk.blk HB3.out (by simp; omega)) (by simp))
  have hg7p : p < g7 := by omega
  have hg7p2 : p2 < g7 := by omega
  have hg7b : b < g7 := by omega
  have hg7b2 : b2 < g7 := by omega
  have hgg7 : g < g7 := by omega
  have hwg7 : w.heap.size ≤ g7 := by omega
  rw [hg7] at HG7
  have HNN := hide hnn
  have HHITS := hide hits
  have HRW := hide hrw
  clear hr hk HR3 HK3 HB3 HL3 hb5 hk5 hx1 hx2 hx3 hnn hkk hraw hits hrw hrc
  go_wp2_with fail
  refine (take_at p2 b2 cap2 A3 (q5 s) (7 * (nn : Int)) _ HL5.out).mono ?_
  rintro e w6 ⟨A6, c6, rfl, hnb, hr, hk⟩
  rw [HRW.out] at hnb ⊢
  have HV6 : Hid (Vals w6 [] A6 (r.map B)) := hide (hnb.vals (by simp))
  have HA6 : Hid (A6 = none → c6 = 0) := hide hnb.nil0
  have HG6 := hide (hk.blk HG7.out (by simp; omega))
  have HR6 := hide (HR5.out.kept hk (by simp; omega) (by simp; omega))
  have HK6 := hide (HK5.out.trans hk (by have := HG.out; simp; omega))
  have HB6 := hide (hk.blk HB5.out (by simp; omega))
  clear hr hk hnb HG7 HR5 HK5 HB5 HL5
  go_wp2_with fail
  refine (decode_far A6 r.length c6 r _ HV6.out rfl HA6.out (by omega)).mono ?_
  rintro e w7 ⟨L, m, lc, rfl, hm, hml, hL0, hit, hk⟩
  rw [HHITS.out] at hm hit
  have h6g := HG6.out.lt
  have h6p := HR6.out.lt
  have HI7 := hide (hit [p, g7, g, q] (by have := HB6.out.lt; simp; omega))
  have HG7 := hide (hk.blk HG6.out (by simp))
  have HR7 := hide (HR6.out.kept hk (by simp) (by simp))
  have HK7 := hide (HK6.out.trans hk (by simp))
  have HB7 := hide (hk.blk HB6.out (by simp))
  have HM := hide hm
  have h7g := HG7.out.lt
  clear hk hm hit hml hL0 HG6 HR6 HK6 HB6 HV6 HA6
  have d3 := HG7.out.cell 3
  have e3 := HG7.out.frozen 3
  have HG8 : Hid (Blk (w7.setCell ⟨g7, 3, none⟩ (.slice L m lc)) g7 25 #[.int .i64 x1, .int .i64 x2, .int .i64 x3, .slice L m lc, .slice none 0 0]) := hide (HG7.out.set_ 3 _)
  have hk8 := (Kept.refl [g7] w7).set_ (b := g7) (.inl (by simp)) 3 (.slice L m lc)
  have hmk : ∀ w : World, (Instr.makeSlice 23 (.int .i64 (k : Int)) (.int .i64 (k : Int))).run Try.prog w = .ok (.slice (some ⟨w.heap.size, 0, none⟩) k k) (w.alloc (.cells (madeCells #[.slice none 0 0] k) 28)) :=
    run_make_row' (P := Try.prog) 23 28 (.slice none 0 0) 24 (by kernel_rfl) (by kernel_rfl) rfl .i64 .i64 k (by omega) (by omega)
  obtain ⟨gb, hgb7⟩ : ∃ gb, w7.heap.size = gb := ⟨_, rfl⟩
  obtain ⟨w9, hw9⟩ : ∃ w9, (w7.setCell ⟨g7, 3, none⟩ (.slice L m lc)).alloc (.cells (madeCells #[.slice none 0 0] k) 28) = w9 := ⟨_, rfl⟩
  have hk9 : Kept [g7] w7 w9 := by rw [← hw9]; exact hk8.alloc _
  have hb9 : Blk w9 gb 28 (List.replicate k (Value.slice none 0 0)).toArray := by
    rw [← hw9, ← madeSlices]
    have := Blk.new (w7.setCell ⟨g7, 3, none⟩ (.slice L m lc)) 28 (madeCells #[.slice none 0 0] k)
    simpa [hgb7] using this
  have hg9 : Blk w9 g7 25 #[.int .i64 x1, .int .i64 x2, .int .i64 x3, .slice L m lc, .slice none 0 0] := by rw [← hw9]; exact HG8.out.alloc _
  have d4 := hg9.cell 4
  have e4 := hg9.frozen 4
  have hggb : g7 < gb := by omega
  have HG10 : Hid (Blk (w9.setCell ⟨g7, 4, none⟩ (.slice (some ⟨gb, 0, none⟩) k k)) g7 25 #[.int .i64 x1, .int .i64 x2, .int .i64 x3, .slice L m lc, .slice (some ⟨gb, 0, none⟩) k k]) := hide (hg9.set_ 4 _)
  have hk10 := hk9.set_ (b := g7) (.inl (by simp)) 4 (.slice (some ⟨gb, 0, none⟩) k k)
  have HP10 : Hid (Blk (w9.setCell ⟨g7, 4, none⟩ (.slice (some ⟨gb, 0, none⟩) k k)) gb 28 (([] : List Value) ++ List.replicate (k - 0) (Value.slice none 0 0)).toArray) := hide (hb9.far_ (by omega) 4 _)
  have HI10 := hide (Items.kept (Vals.away (S' := [p, g7, gb, g, q]) HI7.out (by simp; omega)) hk10 (by simp))
  have HR10 := hide (HR7.out.kept hk10 (by simp; omega) (by simp; omega))
  have HB10 := hide (hk10.blk HB7.out (by simp; omega))
  have HK10 := hide (HK7.out.trans hk10 (by simp; omega))
  clear hk8 hk9 hb9 hg9 hk10 HG8 HG7 HR7 HK7 HB7 HI7
  go_wp2
  go_loopw [47] (fun i wr => ∃ j : Nat, j ≤ k ∧ i = .int .i64 j ∧ Hid (RowAt wr p b cap A1 (after (a1 bs) j)) ∧ Hid (Blk wr g7 25 #[.int .i64 x1, .int .i64 x2, .int .i64 x3, .slice L m lc, .slice (some ⟨gb, 0, none⟩) k k]) ∧ Hid (Blk wr g 25 #[.int .i64 0, .int .i64 0, .int .i64 0, .slice none 0 0, .slice none 0 0]) ∧ Hid (Items wr [p, g7, gb, g, q] L its) ∧ Hid (∃ vs : List Value, PartsIn wr [p, g7, gb, g, q] vs (takes (a1 bs) j) ∧ vs.length = j ∧ Blk wr gb 28 (vs ++ List.replicate (k - j) (Value.slice none 0 0)).toArray) ∧ Hid (Kept [] w wr)) (fun i wr => k - (intOf i).toNat)
  case atStart => exact ⟨0, by omega, rfl, HR10, HG10, HB10, HI10, hide ⟨[], PartsIn.nil _ _, rfl, HP10.out⟩, HK10⟩
  case round =>
    obtain ⟨j, hj, rfl, HRr, HGr, HBr, HIr, HPr, HKr⟩ := hrel
    by_cases hlt2 : j < k
    · obtain ⟨vs, hps, hvl, hgb⟩ := HPr.out
      have HPS := hide hps
      have HVL := hide hvl
      have HGB := hide hgb
      have hz : (vs ++ List.replicate (k - j) (Value.slice none 0 0)).toArray[j]? = some (.slice none 0 0) := by
        rw [List.getElem?_toArray, List.getElem?_append_right (by omega), hvl, Nat.sub_self, List.getElem?_replicate, if_pos (by omega)]
      have HZ := hide hz
      have hgbl := hgb.lt
      have htl := taken_le (a1 bs) j
      obtain ⟨tk, htk⟩ : ∃ tk, taken (a1 bs) j = tk := ⟨_, rfl⟩
      rw [htk] at htl
      have HTK := hide htk
      have HST := hide (show Kept [p, gb] wr wr ∧ wr.cell? ⟨g7, 4, none⟩ = some (.slice (some ⟨gb, 0, none⟩) k k) from ⟨Kept.refl _ _, HGr.out.cell 4⟩)
      have hne1 : g7 ≠ p := by omega
      have hne2 : g7 ≠ gb := by omega
      clear hps hvl hgb hz htk HPr
      go_wp2
      -- REGION read
      refine wp_region_noPanic ?_
      refine wp_region_held_drew (S := fun W => Kept [p, gb] wr W ∧ W.cell? ⟨g7, 4, none⟩ = some (.slice (some ⟨gb, 0, none⟩) k k)) (by kernel_rfl) (by exact ⟨HST.out.1.drew, HST.out.2⟩) (fun hHeld => ?_)
      refine wpAnyH_take (i := 0) (oi := ⟨some 51, _, _, _, _, _⟩) (v := ?v1) rfl (by kernel_rfl) (by kernel_rfl) (by kernel_rfl) (fun _ _ _ h => h) (Or.inl ⟨by rfl, ?hy1⟩) (by assumption) ?rest1
      case hy1 => (intro W hSw; (try dsimp only at hSw); go_simp; try with_reducible rfl)
      try simp only [Act.put, List.setIfInBounds_toArray, List.set_cons_zero, List.set_cons_succ]
      refine wpAnyH_take (i := 1) (oi := ⟨some 52, _, _, _, _, _⟩) (v := ?v2) rfl (by kernel_rfl) (by kernel_rfl) (by kernel_rfl) (fun _ _ _ h => h) (Or.inl ⟨by rfl, ?hy2⟩) (by assumption) ?rest2
      case hy2 => (intro W hSw; (try dsimp only at hSw); go_simp; try with_reducible rfl)
      try simp only [Act.put, List.setIfInBounds_toArray, List.set_cons_zero, List.set_cons_succ]
      refine wpAnyH_take (i := 2) (oi := ⟨some 53, _, _, _, _, _⟩) (v := ?v3) rfl (by kernel_rfl) (by kernel_rfl) (by kernel_rfl) (fun _ _ _ h => h) (Or.inl ⟨by rfl, ?hy3⟩) (by assumption) ?rest3
      case hy3 => (intro W hSw; (try dsimp only at hSw); go_simp; try with_reducible rfl)
      try simp only [Act.put, List.setIfInBounds_toArray, List.set_cons_zero, List.set_cons_succ]
      refine wpAnyH_take (i := 3) (oi := ⟨some 54, _, _, _, _, _⟩) (v := ?v4) rfl (by kernel_rfl) (by kernel_rfl) (by kernel_rfl) (fun _ _ _ h => h) (Or.inl ⟨by rfl, ?hy4⟩) (by assumption) ?rest4
      case hy4 => (intro W hSw; (try dsimp only at hSw); go_simp; try with_reducible rfl)
      try simp only [Act.put, List.setIfInBounds_toArray, List.set_cons_zero, List.set_cons_succ]
      refine held_one (i := 4) (o := ⟨some 55, _, _, _, _, _⟩) rfl (by kernel_rfl) (by rfl) (fun K hK => ?_)
      go_simp
      refine (take_at p b cap A1 (after (a1 bs) j) 64 _ (HRr.out.drewN 1)).mono ?_
      rintro e w11 ⟨A11, c11, rfl, hnb11, hr11, hk11⟩
      rw [show (Row.take (after (a1 bs) j) 64).1 = tk from HTK.out]
      have hgb11 := hk11.blk (HGB.out.drewN 1) (by simp; omega)
      refine hK.out _ _ (by exact rdheld hne1 hne2 hHeld (hk11.mono (by simp))) (fun hHeld => ?_)
      clear hK K
      try simp only [Act.put, List.setIfInBounds_toArray, List.set_cons_zero, List.set_cons_succ]
      refine wpAnyH_take (i := 5) (oi := ⟨some 50, _, _, _, _, _⟩) (v := ?v5) rfl (by kernel_rfl) (by kernel_rfl) (by kernel_rfl) (fun _ _ _ h => h) (Or.inl ⟨by rfl, ?hy5⟩) (by assumption) ?rest5
      case hy5 => (intro W hSw; (try dsimp only at hSw); go_simp; try with_reducible rfl)
      try simp only [Act.put, List.setIfInBounds_toArray, List.set_cons_zero, List.set_cons_succ]
      refine wpAnyH_take (i := 6) (oi := ⟨some 56, _, _, _, _, _⟩) (v := ?v6) rfl (by kernel_rfl) (by kernel_rfl) (by kernel_rfl) (fun _ _ _ h => h) (Or.inl ⟨by rfl, ?hy6⟩) (by assumption) ?rest6
      case hy6 => (intro W hSw; (try dsimp only at hSw); go_simp; try with_reducible rfl)
      try simp only [Act.put, List.setIfInBounds_toArray, List.set_cons_zero, List.set_cons_succ]
      refine wpAnyH_take (i := 7) (oi := ⟨some 57, _, _, _, _, _⟩) (v := ?v7) rfl (by kernel_rfl) (by kernel_rfl) (by kernel_rfl) (fun _ _ _ h => h) (Or.inl ⟨by rfl, ?hy7⟩) (by assumption) ?rest7
      case hy7 => (intro W hSw; (try dsimp only at hSw); go_simp; try with_reducible rfl)
      try simp only [Act.put, List.setIfInBounds_toArray, List.set_cons_zero, List.set_cons_succ]
      refine wpAnyH_take (i := 8) (oi := ⟨some 58, _, _, _, _, _⟩) (v := ?v8) rfl (by kernel_rfl) (by kernel_rfl) (by kernel_rfl) (fun _ _ _ h => h) (Or.inl ⟨by rfl, ?hy8⟩) (by assumption) ?rest8
      case hy8 => (intro W hSw; (try dsimp only at hSw); go_simp; try with_reducible rfl)
      try simp only [Act.put, List.setIfInBounds_toArray, List.set_cons_zero, List.set_cons_succ]
      refine held_one (i := 9) (o := ⟨none, _, _, _, _, _⟩) rfl (by kernel_rfl) (by rfl) (fun K hK => ?_)
      have z11 := hgb11.cell j
      rw [HZ.out] at z11
      have y11 := hgb11.frozen j
      go_simp
      have hks : Kept [p, gb] w11 (w11.setCell ⟨gb, j, none⟩ (.slice A11 tk.length c11)) := (Kept.refl [p, gb] w11).set_ (b := gb) (.inl (by simp)) j _
      have hkg : Kept [gb] w11 (w11.setCell ⟨gb, j, none⟩ (.slice A11 tk.length c11)) := (Kept.refl [gb] w11).set_ (b := gb) (.inl (by simp)) j _
      have hbs := hgb11.set_ j (.slice A11 tk.length c11)
      generalize w11.setCell ⟨gb, j, none⟩ (.slice A11 tk.length c11) = w12 at hks hkg hbs ⊢
      refine hK.out _ _ (by exact rdheld hne1 hne2 hHeld hks) (fun hHeld => ?_)
      clear hK K
      try simp only [Act.put, List.setIfInBounds_toArray, List.set_cons_zero, List.set_cons_succ]
      refine wpAnyH_done (by kernel_rfl) ?_ _
      refine NoPanic.normal ?_
      -- END
      have HR12 : Hid (RowAt w12 p b cap A1 (after (a1 bs) (j + 1))) := hide (hr11.kept hkg (by simp; omega) (by simp; omega))
      have HG12 := hide (hHeld.1.blk HGr.out (by simp; exact ⟨hne1, hne2⟩))
      have HB12 := hide (hHeld.1.blk HBr.out (by simp; omega))
      have HI12 : Hid (Items w12 [p, g7, gb, g, q] L its) := hide (Items.kept HIr.out hHeld.1 (by simp))
      have hvn : Vals w12 [p, g7, gb, g, q] A11 (tk.map B) := by
        have h1 := hnb11.vals (S := [p, g7, gb, g, q]) (by have := HRr.out.lt; have := HGr.out.lt; have := HGB.out.lt; have := HBr.out.lt; simp; omega)
        rw [show (Row.take (after (a1 bs) j) 64).1 = tk from HTK.out] at h1
        exact Vals.kept h1 hks (by simp)
      have HP12 : Hid (∃ vs' : List Value, PartsIn w12 [p, g7, gb, g, q] vs' (takes (a1 bs) (j + 1)) ∧ vs'.length = j + 1 ∧ Blk w12 gb 28 (vs' ++ List.replicate (k - (j + 1)) (Value.slice none 0 0)).toArray) := hide ⟨vs ++ [.slice A11 tk.length c11], by
        rw [takes_succ, HTK.out]
        exact (HPS.out.kept hHeld.1 (by simp)).snoc A11 tk.length c11 tk rfl (by omega) hvn, by rw [List.length_append, HVL.out]; rfl, by
        have := hbs
        rw [List.setIfInBounds_toArray, set_nil vs k j _ _ HVL.out hlt2] at this
        exact this⟩
      have HK12 := hide (HKr.out.trans hHeld.1 (by simp; omega))
      clear hr11 hks hkg hbs hnb11 hvn hHeld hgb11 hk11
      go_wp2
      go_roundw
      case rel => exact ⟨j + 1, by omega, by go_num, HR12, HG12, HB12, HI12, HP12, HK12⟩
      case measure => simp [intOf]; omega
    · obtain rfl : j = k := by omega
      obtain ⟨vs, hps, hvl, hgb⟩ := HPr.out
      rw [Nat.sub_self, List.replicate_zero, List.append_nil] at hgb
      have hpb : Vals wr [g, q] (some ⟨gb, 0, none⟩) vs := Vals.blk 0 hgb (by simp; omega) (fun i v hv => by rw [Nat.zero_add, List.getElem?_toArray]; exact hv)
      clear hvl hgb HPr
      obtain ⟨c0, c1, c2, c3, c4⟩ := cell5 HGr.out
      obtain ⟨d0, d1, d2, d3, d4⟩ := cell5 HBr.out
      have f0 := HBr.out.frozen 0
      have f1 := HBr.out.frozen 1
      have f2 := HBr.out.frozen 2
      have f3 := HBr.out.frozen 3
      have f4 := HBr.out.frozen 4
      have HBW := hide (put5 (.int .i64 x1) (.int .i64 x2) (.int .i64 x3) (.slice L m lc) (.slice (some ⟨gb, 0, none⟩) j j) HBr.out)
      have HKW := hide (put5_kept (g := g) (S := []) (.int .i64 x1) (.int .i64 x2) (.int .i64 x3) (.slice L m lc) (.slice (some ⟨gb, 0, none⟩) j j) HKr.out (.inr HG.out))
      have HKG := hide (put5_kept (g := g) (S := [g]) (.int .i64 x1) (.int .i64 x2) (.int .i64 x3) (.slice L m lc) (.slice (some ⟨gb, 0, none⟩) j j) (Kept.refl [g] wr) (.inl (by simp)))
      have HIF := hide ((Items.kept HIr.out HKG.out (by simp) : Vals _ _ _ _).mono (S' := [q]) (by simp))
      have HPF : Hid (∃ vs, PartsIn _ [q] vs (takes (a1 bs) j) ∧ Vals _ [q] (some ⟨gb, 0, none⟩) vs) := hide ⟨vs, (hps.kept HKG.out (by simp)).less (by simp), (hpb.kept HKG.out (by simp)).mono (by simp)⟩
      clear hps hpb
      go_wp2
      generalize (((((wr.setCell ⟨g, 0, none⟩ (.int .i64 x1)).setCell ⟨g, 1, none⟩ (.int .i64 x2)).setCell ⟨g, 2, none⟩ (.int .i64 x3)).setCell ⟨g, 3, none⟩ (.slice L m lc)).setCell ⟨g, 4, none⟩ (.slice (some ⟨gb, 0, none⟩) j j)) = W at HBW HKW HKG HIF HPF ⊢
      obtain ⟨t0, t1, t2, t3, t4⟩ := cell5 HBW.out
      refine bodyPost_ret (v := .agg #[.int .i64 x1, .int .i64 x2, .int .i64 x3, .slice L m lc, .slice (some ⟨gb, 0, none⟩) j j]) ?_ rfl ⟨L, m, lc, some ⟨gb, 0, none⟩, j, j, by rw [HRC.out], ?_, HKW.out⟩
      · simp [results, Try.results46, go_sem, t0, t1, t2, t3, t4]
      · rw [HRC.out]
        exact ⟨HM.out.symm, takes_len _ _, HIF.out, HPF.out⟩
theorem read_any (A : Option Addr) (n c : Nat) (bs : List UInt8) (w : World) (hq : 0 < w.heap.size) (hv : Vals w [] A (bs.map B)) (hl : bs.length = n) (hA : A = none → c = 0) (hn : n ≤ 65536) :
    Calls Try.prog 46 #[.slice A n c] w fun e w' => ∃ (L : Option Addr) (m lc : Nat) (P : Option Addr) (k pc : Nat),
      e = .returned (.agg #[.int .i64 (readC bs).m, .int .i64 (readC bs).l, .int .i64 (readC bs).p, .slice L m lc, .slice P k pc]) ∧ RcAt w' L m P k (readC bs) ∧ Kept [] w w' :=
  (read_far 0 A n c bs w hq hv hl hA hn).mono fun _ _ ⟨L, m, lc, P, k, pc, h1, h2, h3⟩ => ⟨L, m, lc, P, k, pc, h1, h2.at_, h3⟩
end Go.Proofs.Ytepooidgmaokeaa.record
