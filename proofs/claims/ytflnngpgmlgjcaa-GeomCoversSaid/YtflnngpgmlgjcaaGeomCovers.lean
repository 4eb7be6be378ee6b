/-
  The given statement GeomCoversSaid is proved: whatever the arguments are, the law returns true and leaves its input as it was. No conditions.
-/
import Derived.Test.YtflnngpgmlgjcaaGeomTk
import Derived.Test.YtflnngpgmlgjcaaShapes
import Derived.WalkKit
import Derived.ProofKit
import Derived.OpenShut
import Derived.ShutString
import Derived.ChangeOld
import Derived.Below
namespace Go.Proofs.Ytflnngpgmlgjcaa.geomCovers
open Go.ChangeShapes Go.WideShapes Go.ChangeAt Go.RowKit
open Go.ChangeMaps (open_string shut_string)
open Go.Proofs.Ytflnngpgmlgjcaa.mem Go.Proofs.Ytflnngpgmlgjcaa.base Go.Proofs.Ytflnngpgmlgjcaa.geom
set_option linter.unusedVariables false

theorem own : ownKnob Try.prog.godebug = none := by kernel_rfl
theorem laidOut : laidOutB Try.prog = true := by kernel_rfl

/-- What stands in each world of the loops. -/
structure Hold (w w3 : World) (p g gn : Nat) (b s l r q : Int) (wr : World) : Prop where
  geom : GAt wr p b s l r q
  c1 : wr.cell? ⟨g, 1, none⟩ = some (.int .i64 s)
  c2 : wr.cell? ⟨g, 2, none⟩ = some (.int .i64 l)
  kept : Kept [gn] w3 wr
  pn : p ≠ gn
  gg : g ≠ gn
theorem Hold.next {w w3 wr wn : World} {p g gn : Nat} {b s l r q : Int} (h : Hold w w3 p g gn b s l r q wr) (hk : Kept [] wr wn) : Hold w w3 p g gn b s l r q wn :=
  ⟨h.geom.kept hk, hk.cell h.c1 (by simp), hk.cell h.c2 (by simp), h.kept.trans hk (by simp), h.pn, h.gg⟩
theorem Hold.took {w w3 wr wn : World} {p g gn : Nat} {b s l r q : Int} (h : Hold w w3 p g gn b s l r q wr) (hk : Kept [gn] wr wn) : Hold w w3 p g gn b s l r q wn :=
  ⟨h.geom.kept hk (by simpa using h.pn), hk.cell h.c1 (by simpa using h.gg), hk.cell h.c2 (by simpa using h.gg), h.kept.trans hk (by simp), h.pn, h.gg⟩
theorem Hold.drew {w w3 wr : World} {p g gn : Nat} {b s l r q : Int} (h : Hold w w3 p g gn b s l r q wr) : Hold w w3 p g gn b s l r q wr.drew := h.next (Kept.refl _ _).drew

theorem super_in {a : Int} (h : 0 ≤ a ∧ a ≤ 1) : superAt a = a := if_pos h
theorem region_in {r a R : Int} (h : (a = 0 ∧ R = 0) ∨ (a = 1 ∧ R = r)) : regionAt r a = 2 + R := by
  unfold regionAt
  rw [if_pos (by omega)]
  rcases h with ⟨rfl, rfl⟩ | ⟨rfl, rfl⟩ <;> omega
theorem page_in {r q x y : Int} (o : Bool) (hx : 0 ≤ x ∧ x ≤ q - 1) (hy : 0 ≤ y ∧ y ≤ 1) : pageAt r q o x y = (if o then 2 + 2 * r + 2 * q + 2 * x + y else 2 + 2 * r + 2 * x + y) := by
  unfold pageAt
  rw [if_pos ⟨hy, hx⟩]
  cases o <;> simp <;> omega

set_option maxRecDepth 100000 in
set_option maxHeartbeats 4000000 in
theorem walk_in (a0_0 a0_1 a0_2 : Int) (w : World) :
    Calls Try.prog 4 #[.agg #[.int .i64 a0_0, .int .i64 a0_1, .int .i64 a0_2]] w fun e w' => e = .returned (.bool true) ∧ Below w.heap.size w w' := by
  have hk := hide ((Kept.refl [] w).alloc (.cells #[.int .i64 a0_0, .int .i64 a0_1, .int .i64 a0_2] 41))
  go_enter Try.func4, Try.ntmps4
  go_wp2_with fail
  refine (config_any a0_0 a0_1 a0_2 _).mono ?_
  rintro e w1 ⟨b, s, l, rfl, ho, hk1⟩
  have hka := hide ((hk.out.trans hk1 (by simp)).alloc (.cells #[.int .i64 b, .int .i64 s, .int .i64 l] 23))
  have hb0 := Blk.new w1 23 #[.int .i64 b, .int .i64 s, .int .i64 l]
  have c0 : (w1.alloc (.cells #[.int .i64 b, .int .i64 s, .int .i64 l] 23)).cell? ⟨w1.heap.size, 0, none⟩ = some (.int .i64 b) := hb0.cell 0
  have c1 : (w1.alloc (.cells #[.int .i64 b, .int .i64 s, .int .i64 l] 23)).cell? ⟨w1.heap.size, 1, none⟩ = some (.int .i64 s) := hb0.cell 1
  have c2 : (w1.alloc (.cells #[.int .i64 b, .int .i64 s, .int .i64 l] 23)).cell? ⟨w1.heap.size, 2, none⟩ = some (.int .i64 l) := hb0.cell 2
  have HO := hide ho
  clear hb0 hk hk1
  go_wp2_with fail
  refine (new_yes b s l _ HO.out).mono ?_
  rintro e w2 ⟨p, r, q, rfl, hg, hp, hk2⟩
  have HG := hide hg
  have hb := hg.bounds
  obtain ⟨ho1, ho2, ho3⟩ := ho
  have HK := hide (hka.out.trans hk2 (by simp))
  have d0 := hk2.cell c0 (by simp)
  have d1 := hk2.cell c1 (by simp)
  have d2 := hk2.cell c2 (by simp)
  clear c0 c1 c2 hg hp hk2 hka
  generalize w1.heap.size = g at *
  have hS2 : Kept [] w2 w2 ∧ w2.cell? ⟨g, 0, none⟩ = some (.int .i64 b) ∧ w2.cell? ⟨g, 1, none⟩ = some (.int .i64 s) ∧ w2.cell? ⟨g, 2, none⟩ = some (.int .i64 l) := ⟨Kept.refl _ _, d0, d1, d2⟩
  clear d0 d1 d2
  obtain ⟨hr1, hr2, hq1, hq2⟩ := hb
  have hsl := sl_of HO.out
  obtain ⟨N, hN⟩ : ∃ N : Nat, 2 + 2 * r + 4 * q + s * l = N := ⟨(2 + 2 * r + 4 * q + s * l).toNat, by omega⟩
  have hN1 : 1 ≤ N ∧ N ≤ 4096 := by omega
  have hsl2 : s * l = N - (2 + 2 * r + 4 * q) := by omega
  have hN2 : 2 + 2 * r + 4 * q + 192 ≤ N := by have : 8 * 24 ≤ s * l := Int.mul_le_mul (by omega) (by omega) (by omega) (by omega); omega
  have HN := hide hN
  have HSL := hide hsl2
  clear hN hsl hsl2
  have HG2 := HG
  go_wp2_with fail
  refine (sectors_at p b s l r q _ HG2.out).mono ?_
  rintro e w3 ⟨rfl, hk⟩
  rw [HN.out]
  have hS3 := stood hS2 hk
  clear hk hS2
  have HG3 := hide (HG.out.kept hS3.1)
  go_wp2_with fail
  refine (sectors_at p b s l r q _ HG3.out).mono ?_
  rintro e w4 ⟨rfl, hk⟩
  rw [HN.out]
  have hS4 := stood hS3 hk
  clear hk hS3
  have HG4 := hide (HG.out.kept hS4.1)
  go_wp2_with fail
  refine (sectors_at p b s l r q _ HG4.out).mono ?_
  rintro e w5 ⟨rfl, hk⟩
  rw [HN.out]
  have hS5 := stood hS4 hk
  clear hk hS4
  have HG5 := hide (HG.out.kept hS5.1)
  have hmk := run_make_row' (P := Try.prog) 43 3 (.int .i64 0) 8 (by kernel_rfl) (by kernel_rfl) rfl .i64 .i64 N (by omega) (by omega)
  have hC0 := hide (cnt_made w5 N r q)
  have hK0 := (Kept.refl [] w5).alloc (.cells (madeCells #[.int .i64 0] N) 3)
  have hH0 : Hid (Hold w (w5.alloc (.cells (madeCells #[.int .i64 0] N) 3)) p g w5.heap.size b s l r q (w5.alloc (.cells (madeCells #[.int .i64 0] N) 3))) :=
    hide ⟨HG5.out.kept hK0, hK0.cell hS5.2.2.1 (by simp), hK0.cell hS5.2.2.2 (by simp), Kept.refl _ _, fun e => by have := HG5.out.lt; omega, fun e => by have := block_lt_of_cell hS5.2.1; simp at this; omega⟩
  have hKW := hide ((HK.out.trans hS5.1 (by simp)).trans hK0 (by simp))
  have hgn : Hid (w.heap.size ≤ w5.heap.size) := hide (HK.out.trans hS5.1 (by simp)).size
  clear hS5 HG2 HG3 HG4 HG5 hK0
  generalize hZ : w5.alloc (.cells (madeCells #[.int .i64 0] N) 3) = w6 at *
  generalize madeCells #[Value.int .i64 0] N = Z at hmk hZ
  go_wp2
  generalize hgn2 : w5.heap.size = gn at *
  clear hgn2 hZ hmk
  go_loopw [7, 8] (fun bad i wr => bad = .bool false ∧ ∃ x R : Int, ((x = 0 ∧ R = 0) ∨ (x = 1 ∧ R = r) ∨ (x = 2 ∧ R = 2 * r)) ∧ i = .int .i64 x ∧ Hid (Cnt wr gn N (tk r q x R x 0 0 0)) ∧ Hid (Hold w w6 p g gn b s l r q wr)) (fun bad i wr => 2 - (intOf i).toNat)
  case atStart => exact ⟨rfl, 0, 0, .inl ⟨rfl, rfl⟩, rfl, hC0, hH0⟩
  case round =>
    obtain ⟨rfl, x, R, hx, rfl, HC, HH⟩ := hrel
    clear hC0 hH0
    by_cases hlt : x < 2
    · have hx1 : 0 ≤ x ∧ x ≤ 1 := by omega
      have hR1 : 0 ≤ R ∧ R ≤ r := by omega
      have hxR : Hid ((x = 0 ∧ R = 0) ∨ (x = 1 ∧ R = r)) := hide (by omega)
      clear hx hlt
      go_wp2_with fail
      refine (super_any p b s l r q x _ HH.out.geom).mono ?_
      rintro e wa ⟨rfl, hk⟩
      rw [super_in hx1]
      have HCa := hide (HC.out.kept hk)
      have HHa := hide (HH.out.next hk)
      clear hk
      go_wp2_with fail
      refine (takes_tk (x + 1) R x 0 0 0 x 1 HCa.out (by omega) (by omega) (by omega) (by omega) (fun i => (t_super ⟨hr1, hr2⟩ ⟨hq1, hq2⟩ hx1 (by omega)).1) (fun i => (t_super ⟨hr1, hr2⟩ ⟨hq1, hq2⟩ hx1 (by omega)).2)).mono ?_
      rintro e wb ⟨rfl, hc, hk⟩
      have HCb := hide hc
      have HHb := hide (HHa.out.took hk)
      clear hc hk HCa HHa
      go_wp2_with fail
      refine (region_any p b s l r q x _ HHb.out.geom).mono ?_
      rintro e wc ⟨rfl, hk⟩
      rw [region_in hxR.out]
      have HCc := hide (HCb.out.kept hk)
      have HHc := hide (HHb.out.next hk)
      clear hk HCb HHb
      go_wp2_with fail
      refine (regionLen_at p b s l r q _ HHc.out.geom).mono ?_
      rintro e wd ⟨rfl, hk⟩
      have HCd := hide (HCc.out.kept hk)
      have HHd := hide (HHc.out.next hk)
      clear hk HCc HHc
      go_wp2_with fail
      refine (takes_tk (x + 1) (R + r) x 0 0 0 (2 + R) r HCd.out (by omega) (by omega) (by omega) (by omega) (fun i => (t_region ⟨hr1, hr2⟩ ⟨hq1, hq2⟩ hx1 hR1).1) (fun i => (t_region ⟨hr1, hr2⟩ ⟨hq1, hq2⟩ hx1 hR1).2)).mono ?_
      rintro e we ⟨rfl, hc, hk⟩
      have HCe := hide hc
      have HHe := hide (HHd.out.took hk)
      clear hc hk HCd HHd
      have hR2 : 0 ≤ R + r ∧ R + r ≤ 2 * r := by omega
      go_wp2
      go_loopw [7, 9] (fun bad i wi => bad = .bool false ∧ ∃ y : Int, (0 ≤ y ∧ y ≤ q) ∧ i = .int .i64 y ∧ Hid (Cnt wi gn N (tk r q (x + 1) (R + r) x y y 0)) ∧ Hid (Hold w w6 p g gn b s l r q wi)) (fun bad i wi => q.toNat - (intOf i).toNat)
      case atStart => exact ⟨rfl, 0, by omega, rfl, HCe, HHe⟩
      case round =>
        obtain ⟨rfl, y, hy, rfl, HCi, HHi⟩ := hrel
        clear HCe HHe
        go_wp2_with fail
        refine (pages_at p b s l r q _ HHi.out.geom).mono ?_
        rintro e wj ⟨rfl, hk⟩
        have HCj := hide (HCi.out.kept hk)
        have HHj := hide (HHi.out.next hk)
        clear hk HCi HHi
        by_cases hlq : y < q
        · have hy1 : 0 ≤ y ∧ y < q := by omega
          have P1 := hide (show pageAt r q false y x = 2 + 2 * r + 2 * y + x from page_in false (by omega) hx1)
          have P2 := hide (show pageAt r q true y x = 2 + 2 * r + 2 * q + 2 * y + x from page_in true (by omega) hx1)
          go_wp2_with fail
          refine (page_any p b s l r q y x false _ HHj.out.geom).mono ?_
          rintro e wk ⟨rfl, hk⟩
          rw [P1.out]
          have HCk := hide (HCj.out.kept hk)
          have HHk := hide (HHj.out.next hk)
          clear hk HCj HHj
          go_wp2_with fail
          refine (takes_tk (x + 1) (R + r) x (y + 1) y 0 (2 + 2 * r + 2 * y + x) 1 HCk.out (by omega) (by omega) (by omega) (by omega) (fun i => (t_base ⟨hr1, hr2⟩ ⟨hq1, hq2⟩ hx1 hR2 hy1).1) (fun i => (t_base ⟨hr1, hr2⟩ ⟨hq1, hq2⟩ hx1 hR2 hy1).2)).mono ?_
          rintro e wl ⟨rfl, hc, hk⟩
          have HCl := hide hc
          have HHl := hide (HHk.out.took hk)
          clear hc hk HCk HHk
          go_wp2_with fail
          refine (page_any p b s l r q y x true _ HHl.out.geom).mono ?_
          rintro e wm ⟨rfl, hk⟩
          rw [P2.out]
          have HCm := hide (HCl.out.kept hk)
          have HHm := hide (HHl.out.next hk)
          clear hk HCl HHl
          go_wp2_with fail
          refine (takes_tk (x + 1) (R + r) x (y + 1) (y + 1) 0 (2 + 2 * r + 2 * q + 2 * y + x) 1 HCm.out (by omega) (by omega) (by omega) (by omega) (fun i => (t_over ⟨hr1, hr2⟩ ⟨hq1, hq2⟩ hx1 hR2 hy1).1) (fun i => (t_over ⟨hr1, hr2⟩ ⟨hq1, hq2⟩ hx1 hR2 hy1).2)).mono ?_
          rintro e wn ⟨rfl, hc, hk⟩
          have HCn := hide hc
          have HHn := hide (HHm.out.took hk)
          clear hc hk HCm HHm
          go_wp2
          exact ⟨⟨rfl, y + 1, by omega, rfl, HCn, HHn⟩, by simp [intOf]; omega⟩
        · obtain rfl : y = q := by omega
          have HCn := hide (HCj.out.congr fun i _ => tk_eq (t_next ⟨hr1, hr2⟩ ⟨hq1, hq2⟩ (R := R + r) (i := i) hx1))
          have hxs : Hid (((x + 1 = 0 ∧ R + r = 0) ∨ (x + 1 = 1 ∧ R + r = r) ∨ (x + 1 = 2 ∧ R + r = 2 * r))) := hide (by have := hxR.out; omega)
          go_wp2
          exact ⟨⟨rfl, x + 1, R + r, hxs.out, rfl, HCn, HHj⟩, by simp [intOf]; omega⟩
    · have hx2 : Hid (x = 2 ∧ R = 2 * r) := hide (by omega)
      have HC2 : Hid (Cnt wr gn N (tk r q 2 (2 * r) 2 0 0 0)) := hide (by have := HC.out; rw [hx2.out.1, hx2.out.2] at this; exact this)
      have hge : 2 ≤ x := by omega
      clear hx hlt HC
      go_wp2
      go_loopw [7, 10] (fun bad i wi => bad = .bool false ∧ ∃ z Z : Int, (0 ≤ z ∧ z ≤ s) ∧ Hid (Z = z * l) ∧ i = .int .i64 z ∧ Hid (Cnt wi gn N (tk r q 2 (2 * r) 2 0 0 Z)) ∧ Hid (Hold w w6 p g gn b s l r q wi)) (fun bad i wi => s.toNat - (intOf i).toNat)
      case atStart => exact ⟨rfl, 0, 0, by omega, hide (by simp), rfl, HC2, HH⟩
      case round =>
        obtain ⟨rfl, z, Z, hz, HZ, rfl, HCi, HHi⟩ := hrel
        clear HC2 HH
        have c1 := HHi.out.c1
        by_cases hlz : z < s
        · have hz1 : 0 ≤ z ∧ z ≤ s - 1 := by omega
          have hZ0 : 0 ≤ Z ∧ Z + l ≤ N - (2 + 2 * r + 4 * q) := by
            have h1 : 0 ≤ z * l := Int.mul_nonneg hz.1 (by omega)
            have h2 : (z + 1) * l ≤ s * l := Int.mul_le_mul_of_nonneg_right (by omega) (by omega)
            rw [Int.add_mul] at h2
            have h3 := HSL.out
            have h4 := HZ.out
            omega
          have c2 := HHi.out.c2
          have S1 := hide (show segAt s l r q z = 2 + 2 * r + 4 * q + Z by rw [segAt_in hz1, HZ.out])
          have HHd := hide HHi.out.drew
          have HCd := hide HCi.out.drew
          go_wp2
          go_region_held3 (fun W => W.cell? ⟨g, 2, none⟩ = some (.int .i64 l))
            (first | exact HHd.out.c2 | exact HHj.out.c2 | exact HHk.out.c2)
            (first
              | (go_at_call 25; refine (seg_any p b s l r q z _ HHd.out.geom).mono ?_; rintro e wj ⟨rfl, hk⟩; rw [S1.out]; have HCj := hide (HCd.out.kept hk); have HHj := hide (HHd.out.next hk); clear hk)
              | (go_at_call 32; refine (takes_tk 2 (2 * r) 2 0 0 (Z + l) (2 + 2 * r + 4 * q + Z) l HCj.out (by omega) (by omega) (by omega) (by omega) (fun i => (t_seg ⟨hr1, hr2⟩ ⟨hq1, hq2⟩ hZ0.1 (by omega)).1) (fun i => (t_seg ⟨hr1, hr2⟩ ⟨hq1, hq2⟩ hZ0.1 (by omega)).2)).mono ?_; rintro e wk ⟨rfl, hc, hk⟩; have HCk := hide hc; have HHk := hide (HHj.out.took hk); clear hc hk))
          go_wp2
          exact ⟨⟨rfl, z + 1, Z + l, by omega, hide (by rw [Int.add_mul, HZ.out]; omega), rfl, HCk, HHk⟩, by simp [intOf]; omega⟩
        · obtain rfl : z = s := by omega
          have hZN : Hid (2 + 2 * r + 4 * q + Z = N) := hide (by rw [HZ.out]; have := HSL.out; omega)
          have hall : Hid (∀ i, i < N → tk r q 2 (2 * r) 2 0 0 Z i = 1) := hide (fun i hi => by
            unfold tk
            rw [if_pos (t_all (by have := hZN.out; omega))])
          go_wp2
          go_loopw [7, 11] (fun bad i wi => bad = .bool false ∧ ∃ j : Nat, j ≤ N ∧ i = .int .i64 j ∧ Hid (Cnt wi gn N (tk r q 2 (2 * r) 2 0 0 Z)) ∧ Hid (Hold w w6 p g gn b z l r q wi)) (fun bad i wi => N - (intOf i).toNat)
          case atStart => exact ⟨rfl, 0, by omega, rfl, HCi, HHi⟩
          case round =>
            obtain ⟨rfl, j, hj, rfl, HCj, HHj⟩ := hrel
            clear HCi HHi c1
            by_cases hlj : j < N
            · have hc := HCj.out.cell hlj
              rw [hall.out j hlj] at hc
              go_wp2
              exact ⟨⟨rfl, j + 1, by omega, by go_num, HCj, HHj⟩, by simp [intOf]; omega⟩
            · obtain rfl : j = N := by omega
              go_wp2_with fail
              refine (awake_any _).mono ?_
              rintro e wz ⟨rfl, hk⟩
              have hkz := hide ((hKW.out.trans (HHj.out.kept) (fun i hi => .inr (by simp at hi; subst hi; exact hgn.out))).trans hk (by simp))
              go_wp2
              go_ret
              exact ⟨rfl, hkz.out.below (by simp)⟩

theorem walk (a0_0 a0_1 a0_2 : Int) (w : World) (w0_0 : (Lit.int .i64 a0_0).wf = true) (w0_1 : (Lit.int .i64 a0_1).wf = true) (w0_2 : (Lit.int .i64 a0_2).wf = true) :
    Calls Try.prog 4 #[.agg #[.int .i64 a0_0, .int .i64 a0_1, .int .i64 a0_2]] w fun e w' => e = .returned (.bool true) ∧ Below w.heap.size w w' := by
  exact walk_in a0_0 a0_1 a0_2 w

/-! ### the row's step, as the guide's skeleton has it -/
set_option maxRecDepth 100000 in
theorem lifted (os : Os) (started : os.Started) (H : Type) (enc : TypeId × Value → H) :
    ReturnsInHanded {} Try.checked os 4 .any (Rows.geomCoversSpec.pre6 enc Try.prog Try.f4 Rows.geomCoversRow.domain false) (Rows.geomCoversSpec.post enc Try.prog Try.f4 false true false false) := by
  refine returnsInHanded_of_change (C := Try.checked) own started (by kernel_rfl) Try.func4
    (ChangeSpec.witness6 (enc := enc) (C := Try.checked) false ⟨#[], #[.agg #[.int .i64 0, .int .i64 0, .int .i64 0]], []⟩ 8 (by kernel_rfl) (by kernel_rfl) (by kernel_rfl) (by kernel_rfl)) ?_
  intro W base args ds gs before hval0 hW hcnd _
  have hval : ∀ (j : Nat) t v, Try.f4.params[j]? = some t → args[j]? = some v → Value.okWide Try.prog W .any base t v := hval0
  have hW' := hW
  obtain ⟨p, q, hA0, hV, rfl, hfz, hnd⟩ := hW
  have hA : DataW.TrodAll enc Try.prog W 0 (fun _ => true) true Try.f4.params.toList args.toList ds p := hA0
  rw [Try.params4] at hA hval
  obtain ⟨v0, vs0, d0, ds0, p0, q0, hargs, rfl, rfl, h0, r0⟩ := trodAll_cons hA
  obtain ⟨rfl, rfl, rfl⟩ := trodAll_nil r0
  obtain rfl : args = #[v0] := by cases args; simp_all
  obtain ⟨rfl, rfl⟩ := trodVars_none hV
  have k0 := h0
  have lt0 : ∀ x ∈ p0, x.block < W.heap.size := by obtain ⟨m, hm⟩ := k0; exact DataW.trod_lt m _ _ _ hm
  obtain ⟨xs0, rfl, hl0, hx0⟩ := agg_ints (ts := List.replicate 3 3) (n := 3) (by kernel_rfl) (by kernel_rfl) (fun u hu => by rw [List.eq_of_mem_replicate hu]; exact Try.underlying3) (by kernel_rfl) (hval 0 41 v0 rfl rfl)
  obtain ⟨a0_0, a0_1, a0_2, rfl⟩ := list3 hl0
  have w0_0 := hx0 a0_0 (by simp)
  have w0_1 := hx0 a0_1 (by simp)
  have w0_2 := hx0 a0_2 (by simp)
  clear hA0 hval0
  refine (walk a0_0 a0_1 a0_2 W w0_0 w0_1 w0_2).mono fun e W' ⟨he, bel⟩ => ?_
  subst he
  exact ⟨_, rfl, _, _, _, [], _, [], hW', trodAll_mk1 (shut_bool Try.underlying4 _), (trodAll_cons_mk (Below.trod laidOut (by kernel_rfl) (of_decide_eq_true (by kernel_rfl)) k0 bel lt0) trodAll_mk0), rfl, bel.frame _, fun h => by cases h⟩

theorem over : Rows.geomCoversRow.holds Try.pinned (OpenSpec.ofChange Rows.geomCoversSpec) :=
  OpenClaim.holds_of_wide 4 Try.f4 rfl rfl rfl rfl rfl rfl rfl ⟨rfl, rfl, rfl, rfl, rfl⟩ rfl rfl rfl rfl rfl (by kernel_rfl) Try.func4 (by kernel_rfl)
    (of_decide_eq_true (by kernel_rfl)) (by unfold Func.isWrapper; first | (rw [if_pos (by decide +kernel)]; kernel_rfl) | (rw [if_neg (by decide +kernel)]; exact ⟨rfl, rfl⟩))
    (fun os started H enc _ => lifted os started H enc)

/-- The statement. -/
theorem proved : Rows.GeomCoversSaid := over
#print axioms proved
end Go.Proofs.Ytflnngpgmlgjcaa.geomCovers

