/- Package region: within, mayAt, maySlots, mayUses, May. (Written by tools/genrgmay.py.) -/
import Derived.Test.YthacnlpdodlggaaRegionMem
namespace Go.Proofs.Ythacnlpdodlggaa.rg
open Go.RowKit Go.Proofs.Ythacnlpdodlggaa.mem Go.Proofs.Ythacnlpdodlggaa.base Go.Proofs.Ythacnlpdodlggaa.row

theorem between (n a b : Int) (w : World) :
    Calls Try.prog 37 #[.int .i64 n, .int .i64 a, .int .i64 b] w fun e w' => e = .returned (.bool (decide (a ≤ n) && decide (n ≤ b))) ∧ w = w' := by
  by_cases h : a ≤ n
  · go_enter Try.func37, Try.ntmps37
    go_wp2
    go_ret
    exact ⟨by simp [h], rfl⟩
  · go_enter Try.func37, Try.ntmps37
    go_wp2
    go_ret
    exact ⟨by rw [show decide (a ≤ n) = false from decide_eq_false (by omega)]; rfl, rfl⟩
theorem between_yes (n a b : Int) (w : World) (h : a ≤ n ∧ n ≤ b) :
    Calls Try.prog 37 #[.int .i64 n, .int .i64 a, .int .i64 b] w fun e w' => e = .returned (.bool true) ∧ w = w' :=
  (between n a b w).mono fun e w' ⟨he, hw⟩ => ⟨by rw [he]; simp [h.1, h.2], hw⟩
theorem between_no (n a b : Int) (w : World) (h : ¬ (a ≤ n ∧ n ≤ b)) :
    Calls Try.prog 37 #[.int .i64 n, .int .i64 a, .int .i64 b] w fun e w' => e = .returned (.bool false) ∧ w = w' :=
  (between n a b w).mono fun e w' ⟨he, hw⟩ => ⟨by rw [he]; congr 2; rw [← Bool.not_eq_true, Bool.and_eq_true, decide_eq_true_iff, decide_eq_true_iff]; omega, hw⟩

theorem mayAt_any (D : Dv) (hD : D.ok) (R : Rg) (w : World) :
    Calls Try.prog 38 #[.agg #[.int .i64 D.b, .int .i64 D.n, .int .i64 D.z], .agg #[.int .i64 R.s, .int .i64 R.o, .int .i64 R.l, .int .i64 R.p, .int .i64 R.k]] w fun e w' => e = .returned (.bool (R.posMay D)) ∧ Kept [] w w' := by
  have hk := ((Kept.refl [] w).alloc (.cells #[.int .i64 D.b, .int .i64 D.n, .int .i64 D.z] 31)).alloc (.cells #[.int .i64 R.s, .int .i64 R.o, .int .i64 R.l, .int .i64 R.p, .int .i64 R.k] 24)
  obtain ⟨_, ⟨hn1, hn2⟩, ⟨hz1, hz2⟩, _, _⟩ := hD
  go_enter Try.func38, Try.ntmps38
  go_wp2_with fail
  by_cases h0 : 0 ≤ R.s ∧ R.s ≤ (D.n : Int) - 1
  · refine (between_yes R.s 0 ((D.n : Int) - 1) _ h0).mono ?_
    rintro e w1 ⟨rfl, rfl⟩
    go_wp2_with fail
    by_cases h1 : 0 ≤ R.o ∧ R.o ≤ D.z - 1
    · refine (between_yes R.o 0 (D.z - 1) _ h1).mono ?_
      rintro e w2 ⟨rfl, rfl⟩
      go_wp2_with fail
      by_cases h2 : 1 ≤ R.l ∧ R.l ≤ 2147483647
      · refine (between_yes R.l 1 2147483647 _ h2).mono ?_
        rintro e w3 ⟨rfl, rfl⟩
        go_wp2_with fail
        by_cases h3 : 0 ≤ R.p ∧ R.p ≤ 4294967295
        · refine (between_yes R.p 0 4294967295 _ h3).mono ?_
          rintro e w4 ⟨rfl, rfl⟩
          go_wp2_with fail
          by_cases h4 : 1 ≤ R.k ∧ R.k ≤ 2147483647
          · refine (between_yes R.k 1 2147483647 _ h4).mono ?_
            rintro e w5 ⟨rfl, rfl⟩
            go_wp2
            go_ret
            exact ⟨by simp [Rg.posMay, h0, h1, h2, h3, h4], hk⟩
          · refine (between_no R.k 1 2147483647 _ h4).mono ?_
            rintro e w5 ⟨rfl, rfl⟩
            go_wp2
            go_ret
            exact ⟨by simp [Rg.posMay, h0, h1, h2, h3, h4], hk⟩
        · refine (between_no R.p 0 4294967295 _ h3).mono ?_
          rintro e w4 ⟨rfl, rfl⟩
          go_wp2
          go_ret
          exact ⟨by simp [Rg.posMay, h0, h1, h2, h3], hk⟩
      · refine (between_no R.l 1 2147483647 _ h2).mono ?_
        rintro e w3 ⟨rfl, rfl⟩
        go_wp2
        go_ret
        exact ⟨by simp [Rg.posMay, h0, h1, h2], hk⟩
    · refine (between_no R.o 0 (D.z - 1) _ h1).mono ?_
      rintro e w2 ⟨rfl, rfl⟩
      go_wp2
      go_ret
      exact ⟨by simp [Rg.posMay, h0, h1], hk⟩
  · refine (between_no R.s 0 ((D.n : Int) - 1) _ h0).mono ?_
    rintro e w1 ⟨rfl, rfl⟩
    go_wp2
    go_ret
    exact ⟨by simp [Rg.posMay, h0], hk⟩

theorem maySlots_any (y : Nat) (A : Option Addr) (n c : Nat) (l : List Int) (w : World) (hv : Vals w [] A (l.map I)) (hl : l.length = n) (hn : n ≤ 1000) :
    Calls Try.prog 40 #[.int .i64 y, .slice A n c] w fun e w' => e = .returned (.bool (slotsMay y l)) ∧ w = w' := by
  have HV := hide hv
  have HL := hide hl
  clear hv hl
  go_enter Try.func40, Try.ntmps40
  go_wp2
  go_loop [9] (fun i => ∃ j : Nat, j ≤ n ∧ i = .int .i64 j ∧ Hid (slotsOk (l.take j))) (fun i => n - (intOf i).toNat)
  case atStart => exact ⟨0, by omega, rfl, hide (by simp [slotsOk])⟩
  case round =>
    obtain ⟨j, hj, rfl, HM⟩ := hrel
    by_cases hlt : j < n
    · obtain ⟨x, hx⟩ : ∃ x, l[j]? = some x := ⟨_, List.getElem?_eq_getElem (by rw [HL.out]; exact hlt)⟩
      obtain ⟨ad, rfl, _, hc⟩ := HV.out j (I x) (by rw [List.getElem?_map, hx]; rfl)
      unfold I at hc
      have HX := hide hx
      clear hx
      go_wp2_with fail
      by_cases hb : 0 ≤ x ∧ x ≤ 1
      · refine (between_yes x 0 1 _ hb).mono ?_
        rintro e w2 ⟨rfl, rfl⟩
        have HM2 := hide (slotsOk_snoc HM.out HX.out hb)
        clear hb
        go_wp2
        go_round
        case rel => exact ⟨j + 1, by omega, by go_num, HM2⟩
        case measure => simp [intOf]; omega
      · refine (between_no x 0 1 _ hb).mono ?_
        rintro e w2 ⟨rfl, rfl⟩
        have HE : Hid (slotsMay y l = false) := hide (by
          unfold slotsMay
          rw [decide_eq_false (fun h : slotsOk l => hb (slotsOk_at h HX.out)), Bool.false_and])
        clear hb
        go_wp2
        go_ret
        exact ⟨by rw [HE.out]; try rfl, rfl⟩
    · obtain rfl : j = n := by omega
      have hm := HM.out
      rw [List.take_of_length_le (by rw [HL.out]; exact Nat.le_refl _)] at hm
      by_cases hy : j = y
      · have HE : Hid (slotsMay y l = true) := hide (by
          unfold slotsMay
          rw [decide_eq_true hm, decide_eq_true (HL.out.trans hy)]
          rfl)
        clear hm
        subst hy
        go_wp2
        go_ret
        exact ⟨by rw [HE.out]; try rfl, rfl⟩
      · have HE : Hid (slotsMay y l = false) := hide (by
          unfold slotsMay
          rw [decide_eq_false (fun h : l.length = y => hy (HL.out.symm.trans h)), Bool.and_false])
        have hq : ((j : Int) == (y : Int)) = false := beq_eq_false_iff_ne.2 (by omega)
        clear hm
        go_wp2
        go_ret
        exact ⟨by rw [HE.out]; try rfl, rfl⟩

set_option maxHeartbeats 1000000 in
theorem mayUses_any (at_ : Int) (U : Option Addr) (n c : Nat) (l : List Us) (w : World) (hv : Uses w [] U l) (hl : l.length = n) (hn : n ≤ 1000) :
    Calls Try.prog 42 #[.slice U n c, .int .i64 at_] w fun e w' => e = .returned (.bool (usesMay at_ l)) ∧ Kept [] w w' := by
  have HV := hide hv
  have HL := hide hl
  clear hv hl
  go_enter Try.func42, Try.ntmps42
  go_wp2
  go_loopw [9] (fun i wr => ∃ j : Nat, j ≤ n ∧ i = .int .i64 j ∧ Hid (usesOk at_ (l.take j)) ∧ Hid (Kept [] w wr)) (fun i wr => n - (intOf i).toNat)
  case atStart => exact ⟨0, by omega, rfl, hide (usesOk_nil _ _), hide (Kept.refl _ _)⟩
  case round =>
    obtain ⟨j, hj, rfl, HM, HK⟩ := hrel
    by_cases hlt : j < n
    · obtain ⟨x, hx⟩ : ∃ x, l[j]? = some x := ⟨_, List.getElem?_eq_getElem (by rw [HL.out]; exact hlt)⟩
      obtain ⟨ad, rfl, _, c0, c1⟩ := (HV.out.kept HK.out (by simp)).at_ hx
      have HX := hide hx
      have HK2 := hide (HK.out.trans ((Kept.refl [] wr).alloc (.cells x.cells 79)) (by simp))
      have HNO : Hid (¬ x.ok at_ j → usesMay at_ l = false) := hide (fun h => usesMay_no (fun hn => h (hn j x HX.out)))
      clear hx
      unfold Us.cells at HK2
      obtain ⟨s, t⟩ := x
      dsimp only at c0 c1 HK2
      go_wp2_with fail
      by_cases hs : 0 ≤ s ∧ s ≤ 2
      · refine (between_yes s 0 2 _ hs).mono ?_
        rintro e w2 ⟨rfl, rfl⟩
        go_wp2_with fail
        by_cases ht : 0 ≤ t ∧ t ≤ 2147483647
        · refine (between_yes t 0 2147483647 _ ht).mono ?_
          rintro e w2 ⟨rfl, rfl⟩
          by_cases ha : s = 1
          · by_cases hb : (j : Int) = at_
            · have HM2 := hide (usesOk_snoc HM.out HX.out ⟨hs, ht, by simp [ha, hb]⟩)
              have q1 : (s == 1) = true := by simp [ha]
              have q2 : ((j : Int) == at_) = true := by simp [hb]
              clear hs ht ha hb
              go_wp2
              go_roundw
              case rel => exact ⟨j + 1, by omega, by go_num, HM2, HK2⟩
              case measure => simp [intOf]; omega
            · have HE := hide (HNO.out (fun h => hb (h.2.2.1 ha)))
              have q1 : (s == 1) = true := by simp [ha]
              have q2 : ((j : Int) == at_) = false := by simp [hb]
              clear hs ht ha hb
              go_wp2
              go_ret
              exact ⟨by rw [HE.out]; try rfl, HK2.out⟩
          · by_cases hb : (j : Int) = at_
            · have HE := hide (HNO.out (fun h => ha (h.2.2.2 hb)))
              have q1 : (s == 1) = false := by simp [ha]
              have q2 : ((j : Int) == at_) = true := by simp [hb]
              clear hs ht ha hb
              go_wp2
              go_ret
              exact ⟨by rw [HE.out]; try rfl, HK2.out⟩
            · have HM2 := hide (usesOk_snoc HM.out HX.out ⟨hs, ht, by simp [ha, hb]⟩)
              have q1 : (s == 1) = false := by simp [ha]
              have q2 : ((j : Int) == at_) = false := by simp [hb]
              clear hs ht ha hb
              go_wp2
              go_roundw
              case rel => exact ⟨j + 1, by omega, by go_num, HM2, HK2⟩
              case measure => simp [intOf]; omega
        · refine (between_no t 0 2147483647 _ ht).mono ?_
          rintro e w2 ⟨rfl, rfl⟩
          have HE := hide (HNO.out (fun h => ht h.2.1))
          clear hs ht
          go_wp2
          go_ret
          exact ⟨by rw [HE.out]; try rfl, HK2.out⟩
      · refine (between_no s 0 2 _ hs).mono ?_
        rintro e w2 ⟨rfl, rfl⟩
        have HE := hide (HNO.out (fun h => hs h.1))
        clear hs
        go_wp2
        go_ret
        exact ⟨by rw [HE.out]; try rfl, HK2.out⟩
    · obtain rfl : j = n := by omega
      have HE := hide (usesMay_yes (usesOk_all HM.out HL.out))
      go_wp2
      go_ret
      exact ⟨by rw [HE.out]; try rfl, HK.out⟩


/-- What stands through a region that draws: the numbers' cells. -/
theorem held14 {w0 W W' : World} {g : Nat} {R : Rg} {X : Sl} (h : Kept [] w0 W ∧ C14 W g R X) (hk : Kept [] W W') : Kept [] w0 W' ∧ C14 W' g R X :=
  ⟨h.1.trans hk (by simp), hk.cell h.2.c0 (by simp), hk.cell h.2.c1 (by simp), hk.cell h.2.c2 (by simp), hk.cell h.2.c3 (by simp), hk.cell h.2.c4 (by simp), hk.cell h.2.c5 (by simp), hk.cell h.2.c6 (by simp), hk.cell h.2.c7 (by simp), hk.cell h.2.c8 (by simp), hk.cell h.2.c9 (by simp), hk.cell h.2.c10 (by simp), hk.cell h.2.c11 (by simp), hk.cell h.2.c12 (by simp), hk.cell h.2.c13 (by simp)⟩
end Go.Proofs.Ythacnlpdodlggaa.rg
