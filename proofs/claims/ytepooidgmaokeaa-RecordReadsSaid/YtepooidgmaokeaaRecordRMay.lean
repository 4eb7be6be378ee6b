/- The reference's RecordMay. -/
import Derived.Test.YtepooidgmaokeaaRecordMay
import Derived.Test.YtepooidgmaokeaaAlike
namespace Go.Proofs.Ytepooidgmaokeaa.record
open Go.RowKit Go.Proofs.Ytepooidgmaokeaa.mem Go.Proofs.Ytepooidgmaokeaa.base Go.Proofs.Ytepooidgmaokeaa.row Go.Proofs.Ytepooidgmaokeaa.rowBack Go.Proofs.Ytepooidgmaokeaa.fill Go.Proofs.Ytepooidgmaokeaa.crc Go.Proofs.Ytepooidgmaokeaa.crcMath Go.Proofs.Ytepooidgmaokeaa.super Go.Proofs.Ytepooidgmaokeaa.item

theorem ok_items {R : Rc} (h : R.ok) : (1 ≤ R.its.length ∧ R.its.length ≤ 6) ∧ allMay R.its := ⟨h.2.2.2.1, h.2.2.2.2.1⟩
set_option maxRecDepth 100000 in
set_option maxHeartbeats 1000000 in
theorem rmay_bad (R : Rc) (L A : Option Addr) (n c k d : Nat) (w : World) (hn : R.its.length = n) (h : ¬ ((1 ≤ R.m ∧ R.m ≤ 2147483647) ∧ (1 ≤ R.l ∧ R.l ≤ 2147483647) ∧ (0 ≤ R.p ∧ R.p ≤ 4294967295) ∧ (1 ≤ n ∧ n ≤ 6))) :
    Calls Try.prog 12 #[.agg #[.int .i64 R.m, .int .i64 R.l, .int .i64 R.p, .slice L n c, .slice A k d]] w fun e w' => e = .returned (.bool R.may) ∧ Kept [] w w' := by
  have HK1 := hide ((Kept.refl [] w).alloc (.cells #[.int .i64 R.m, .int .i64 R.l, .int .i64 R.p, .slice L n c, .slice A k d] 25))
  have HF : Hid (R.may = false) := hide ((Rc.may_no R).2 (fun ho => h ⟨ho.1, ho.2.1, ho.2.2.1, by rw [← hn]; exact ho.2.2.2.1⟩))
  by_cases h1 : 1 ≤ R.m ∧ R.m ≤ 2147483647
  · by_cases h2 : 1 ≤ R.l ∧ R.l ≤ 2147483647
    · by_cases h3 : 0 ≤ R.p ∧ R.p ≤ 4294967295
      · have H4 : Hid (¬ ((1 : Int) ≤ n ∧ (n : Int) ≤ 6)) := hide (fun hh => h ⟨h1, h2, h3, by omega⟩)
        have H1 := hide h1
        have H2 := hide h2
        have H3 := hide h3
        clear h h1 h2 h3
        go_enter Try.func12, Try.ntmps12
        go_wp2_with fail
        refine (within_yes R.m 1 2147483647 _ H1.out).mono ?_
        rintro e w1 ⟨rfl, rfl⟩
        go_wp2_with fail
        refine (within_yes R.l 1 2147483647 _ H2.out).mono ?_
        rintro e w1 ⟨rfl, rfl⟩
        go_wp2_with fail
        refine (within_yes R.p 0 4294967295 _ H3.out).mono ?_
        rintro e w1 ⟨rfl, rfl⟩
        go_wp2_with fail
        refine (within_no n 1 6 _ H4.out).mono ?_
        rintro e w1 ⟨rfl, rfl⟩
        go_wp2
        go_ret
        exact ⟨by rw [HF.out]; rfl, HK1.out⟩
      · have H1 := hide h1
        have H2 := hide h2
        have H3 := hide h3
        clear h h1 h2 h3
        go_enter Try.func12, Try.ntmps12
        go_wp2_with fail
        refine (within_yes R.m 1 2147483647 _ H1.out).mono ?_
        rintro e w1 ⟨rfl, rfl⟩
        go_wp2_with fail
        refine (within_yes R.l 1 2147483647 _ H2.out).mono ?_
        rintro e w1 ⟨rfl, rfl⟩
        go_wp2_with fail
        refine (within_no R.p 0 4294967295 _ H3.out).mono ?_
        rintro e w1 ⟨rfl, rfl⟩
        go_wp2
        go_ret
        exact ⟨by rw [HF.out]; rfl, HK1.out⟩
    · have H1 := hide h1
      have H2 := hide h2
      clear h h1 h2
      go_enter Try.func12, Try.ntmps12
      go_wp2_with fail
      refine (within_yes R.m 1 2147483647 _ H1.out).mono ?_
      rintro e w1 ⟨rfl, rfl⟩
      go_wp2_with fail
      refine (within_no R.l 1 2147483647 _ H2.out).mono ?_
      rintro e w1 ⟨rfl, rfl⟩
      go_wp2
      go_ret
      exact ⟨by rw [HF.out]; rfl, HK1.out⟩
  · have H1 := hide h1
    clear h h1
    go_enter Try.func12, Try.ntmps12
    go_wp2_with fail
    refine (within_no R.m 1 2147483647 _ H1.out).mono ?_
    rintro e w1 ⟨rfl, rfl⟩
    go_wp2
    go_ret
    exact ⟨by rw [HF.out]; rfl, HK1.out⟩

set_option maxRecDepth 100000 in
set_option maxHeartbeats 2000000 in
theorem rmay_good (R : Rc) (L A : Option Addr) (n c k d : Nat) (w : World) (h : RcAt w L n A k R) (h1 : 1 ≤ R.m ∧ R.m ≤ 2147483647) (h2 : 1 ≤ R.l ∧ R.l ≤ 2147483647) (h3 : 0 ≤ R.p ∧ R.p ≤ 4294967295) (h4 : 1 ≤ n ∧ n ≤ 6) :
    Calls Try.prog 12 #[.agg #[.int .i64 R.m, .int .i64 R.l, .int .i64 R.p, .slice L n c, .slice A k d]] w fun e w' => e = .returned (.bool R.may) ∧ Kept [] w w' := by
  have hk1 := (Kept.refl [] w).alloc (.cells #[.int .i64 R.m, .int .i64 R.l, .int .i64 R.p, .slice L n c, .slice A k d] 25)
  have hb1 := Blk.new w 25 #[.int .i64 R.m, .int .i64 R.l, .int .i64 R.p, .slice L n c, .slice A k d]
  obtain ⟨g, hg⟩ : ∃ g, w.heap.size = g := ⟨_, rfl⟩
  obtain ⟨w1, hw1⟩ : ∃ w1, w.alloc (.cells #[.int .i64 R.m, .int .i64 R.l, .int .i64 R.p, .slice L n c, .slice A k d] 25) = w1 := ⟨_, rfl⟩
  rw [hg] at hb1
  have hr1 := h.kept hk1
  rw [hw1] at hb1 hk1 hr1
  have f0 := hb1.cell 0
  have f1 := hb1.cell 1
  have f2 := hb1.cell 2
  have f3 := hb1.cell 3
  have HB1 := hide hb1
  have HK1 := hide hk1
  have HR1 := hide hr1
  have HOK := hide (ok_iff R)
  have HMI : Hid (allMay R.its → mayIts R.its = true) := hide (fun ha => by unfold mayIts; rw [h.hn, decide_eq_true h4, decide_eq_true ha]; rfl)
  have HN := hide h.hn
  have HKN := hide h.hk
  have H1 := hide h1
  have H2 := hide h2
  have H3 := hide h3
  have H4 := hide (show (1 : Int) ≤ n ∧ (n : Int) ≤ 6 by omega)
  have hn6 := h4.2
  clear h h1 h2 h3 h4 hb1 hk1 hr1
  go_enter Try.func12, Try.ntmps12
  go_wp2_with fail
  refine (within_yes R.m 1 2147483647 _ H1.out).mono ?_
  rintro e w2 ⟨rfl, rfl⟩
  go_wp2_with fail
  refine (within_yes R.l 1 2147483647 _ H2.out).mono ?_
  rintro e w2 ⟨rfl, rfl⟩
  go_wp2_with fail
  refine (within_yes R.p 0 4294967295 _ H3.out).mono ?_
  rintro e w2 ⟨rfl, rfl⟩
  go_wp2_with fail
  refine (within_yes n 1 6 _ H4.out).mono ?_
  rintro e w2 ⟨rfl, rfl⟩
  clear f0 f1 f2 f3
  go_wp2
  go_loopw [4, 3] (fun i x wr => ∃ j q : Nat, j ≤ n ∧ q ≤ j ∧ i = .int .i64 j ∧ x = .int .i64 q ∧ Hid (allMay (R.its.take j)) ∧ Hid (count (R.its.take j) = q) ∧ Hid (Kept [] w1 wr)) (fun i x wr => n - (intOf i).toNat)
  case atStart => exact ⟨0, 0, by omega, by omega, rfl, rfl, hide (by simp [allMay]), hide rfl, hide (Kept.refl _ _)⟩
  case round =>
    obtain ⟨j, q, hj, hq, rfl, rfl, HM2, HC2, HK2⟩ := hrel
    have f3 := (HK2.out.blk HB1.out (by simp)).cell 3
    by_cases hlt : j < n
    · obtain ⟨i, hi⟩ : ∃ i, R.its[j]? = some i := ⟨_, List.getElem?_eq_getElem (by rw [HN.out]; exact hlt)⟩
      obtain ⟨ad, rfl, _, c0, c1, c2, c3⟩ := (HR1.out.its.kept HK2.out (by simp)).at_ hi
      have HI := hide hi
      clear hi
      go_wp2_with fail
      refine (rmay_any i _).mono ?_
      rintro e w3 ⟨rfl, hk⟩
      have HK3 := hide (HK2.out.trans hk (by simp))
      clear hk f3 c0 c1 c2 c3
      by_cases hm : i.may = true
      · rw [hm]
        have hM := hide (allMay_snoc _ i HM2.out hm)
        have HM3 : Hid (allMay (R.its.take (j + 1))) := hide (by rw [List.take_add_one, HI.out]; exact hM.out)
        have f3 := (HK3.out.blk HB1.out (by simp)).cell 3
        obtain ⟨ad', had, _, c0, c1, c2, c3⟩ := (HR1.out.its.kept HK3.out (by simp)).at_ HI.out
        cases had
        clear hm hM
        go_wp2_with fail
        refine (rloaded_any i _).mono ?_
        rintro e w4 ⟨rfl, hk⟩
        have HK4 := hide (HK3.out.trans hk (by simp))
        clear hk f3 c0 c1 c2 c3
        by_cases hl : i.loaded = true
        · rw [hl]
          have HC4 := hide (count_some R.its j i q HI.out HC2.out hl)
          clear hl
          go_wp2
          go_roundw
          case rel => exact ⟨j + 1, q + 1, by omega, by omega, by go_num, by go_num, HM3, HC4, HK4⟩
          case measure => simp [intOf]; omega
        · have hl' := (Bool.not_eq_true _).mp hl
          rw [hl']
          have HC4 := hide (count_none R.its j i q HI.out HC2.out hl')
          clear hl hl'
          go_wp2
          go_roundw
          case rel => exact ⟨j + 1, q, by omega, by omega, by go_num, rfl, HM3, HC4, HK4⟩
          case measure => simp [intOf]; omega
      · have hm' := (Bool.not_eq_true _).mp hm
        rw [hm']
        have HF : Hid (R.may = false) := hide ((Rc.may_no R).2 (fun ho => hm ((ok_items ho).2 i (List.mem_of_getElem? HI.out))))
        clear hm hm'
        go_wp2
        go_ret
        exact ⟨by rw [HF.out]; rfl, HK1.out.trans HK3.out (by simp)⟩
    · obtain rfl : j = n := by omega
      have hfull : R.its.take j = R.its := List.take_of_length_le (by rw [HN.out]; exact Nat.le_refl _)
      rw [hfull] at HM2 HC2
      have f4 := (HK2.out.blk HB1.out (by simp)).cell 4
      have HP2 := hide (HR1.out.bks.kept HK2.out)
      by_cases hqk : q = k
      · subst hqk
        clear hfull
        go_wp2
        go_loop [5] (fun i => ∃ y : Nat, y ≤ q ∧ i = .int .i64 y ∧ Hid (all64 (R.bks.take y))) (fun i => q - (intOf i).toNat)
        case atStart => exact ⟨0, by omega, rfl, hide (by intro b hb; simp at hb)⟩
        case round =>
          obtain ⟨y, hy, rfl, HW⟩ := hrel
          by_cases hlt2 : y < q
          · obtain ⟨b, hb⟩ : ∃ b, R.bks[y]? = some b := ⟨_, List.getElem?_eq_getElem (by rw [HKN.out]; exact hlt2)⟩
            obtain ⟨ad, Ai, ci, rfl, hc, hm, _⟩ := HP2.out.at_ y _ hb
            have HB := hide hb
            clear hb
            by_cases h64 : b.length = 64
            · have HW2 := hide (all64_snoc R.bks y b HW.out HB.out h64)
              rw [h64] at hc
              clear h64 hm
              go_wp2
              go_round
              case rel => exact ⟨y + 1, by omega, by go_num, HW2⟩
              case measure => simp [intOf]; omega
            · have HF : Hid (R.may = false) := hide ((Rc.may_no R).2 (fun ho => h64 (ho.2.2.2.2.2.2 b (List.mem_of_getElem? HB.out))))
              have hne : ((b.length : Int) != 64) = true := by rw [bne_iff_ne]; omega
              clear h64
              go_wp2
              go_ret
              exact ⟨by rw [HF.out]; rfl, HK1.out.trans HK2.out (by simp)⟩
          · obtain rfl : y = q := by omega
            have HT : Hid (R.may = true) := hide ((Rc.may_iff R).2 (HOK.out.2 ⟨H1.out, H2.out, H3.out, HMI.out HM2.out, by rw [HC2.out, HKN.out], by
              have := HW.out
              rwa [List.take_of_length_le (by rw [HKN.out]; exact Nat.le_refl _)] at this⟩))
            go_wp2
            go_ret
            exact ⟨by rw [HT.out]; rfl, HK1.out.trans HK2.out (by simp)⟩
      · have HF : Hid (R.may = false) := hide ((Rc.may_no R).2 (fun ho => hqk (by rw [← HC2.out, ho.2.2.2.2.2.1, HKN.out])))
        have hne : ((q : Int) != (k : Int)) = true := by rw [bne_iff_ne]; omega
        clear hqk hfull
        go_wp2
        go_ret
        exact ⟨by rw [HF.out]; rfl, HK1.out.trans HK2.out (by simp)⟩

theorem rmay_any' (R : Rc) (L A : Option Addr) (n c k d : Nat) (w : World) (h : RcAt w L n A k R) :
    Calls Try.prog 12 #[.agg #[.int .i64 R.m, .int .i64 R.l, .int .i64 R.p, .slice L n c, .slice A k d]] w fun e w' => e = .returned (.bool R.may) ∧ Kept [] w w' := by
  by_cases hh : (1 ≤ R.m ∧ R.m ≤ 2147483647) ∧ (1 ≤ R.l ∧ R.l ≤ 2147483647) ∧ (0 ≤ R.p ∧ R.p ≤ 4294967295) ∧ (1 ≤ n ∧ n ≤ 6)
  · exact rmay_good R L A n c k d w h hh.1 hh.2.1 hh.2.2.1 hh.2.2.2
  · exact rmay_bad R L A n c k d w h.hn hh
end Go.Proofs.Ytepooidgmaokeaa.record
