/- The statements' Ints, Uses, Region: the same numbers, uses, regions. -/
import Derived.Test.YthacnlpdodlggaaRegionMem
import Derived.StillTailTactics
import Derived.Laws.StructEq
namespace Go.Proofs.Ythacnlpdodlggaa.rg
set_option linter.unusedSimpArgs false
open Go.RowKit Go.Proofs.Ythacnlpdodlggaa.mem Go.Proofs.Ythacnlpdodlggaa.base

theorem neq_use (x y : Us) (W : World) : (binOp .neq 79 (.agg #[.int .i64 x.s, .int .i64 x.t]) (.agg #[.int .i64 y.s, .int .i64 y.t])).run Try.prog W = .ok (.bool (!decide (x = y))) W := by
  rw [run_neq_struct, show (10000 : Nat) = 9999 + 1 from rfl, run_equalIn_agg W 9999 _ _ _ (by kernel_rfl) (by kernel_rfl)]
  obtain ⟨a, b⟩ := x
  obtain ⟨a', b'⟩ := y
  have u3 := Try.underlying3
  simp only [Program.fieldsOf, Try.underlying79]
  go_simp
  by_cases h1 : a = a' <;> by_cases h2 : b = b' <;> simp [h1, h2]
theorem eql_pos (a b c d e a' b' c' d' e' : Int) (W : World) : (binOp .eql 24 (.agg #[.int .i64 a, .int .i64 b, .int .i64 c, .int .i64 d, .int .i64 e]) (.agg #[.int .i64 a', .int .i64 b', .int .i64 c', .int .i64 d', .int .i64 e'])).run Try.prog W = .ok (.bool (decide (a = a' ∧ b = b' ∧ c = c' ∧ d = d' ∧ e = e'))) W := by
  rw [run_eql_struct, show (10000 : Nat) = 9999 + 1 from rfl, run_equalIn_agg W 9999 _ _ _ (by kernel_rfl) (by kernel_rfl)]
  have u3 := Try.underlying3
  simp only [Program.fieldsOf, Try.underlying24]
  go_simp
  by_cases h1 : a = a' <;> by_cases h2 : b = b' <;> by_cases h3 : c = c' <;> by_cases h4 : d = d' <;> by_cases h5 : e = e' <;> simp [h1, h2, h3, h4, h5]

set_option maxRecDepth 100000 in
theorem ints_any (A1 A2 : Option Addr) (n1 n2 c1 c2 : Nat) (xs ys : List Int) (w : World) (hn1 : xs.length = n1) (hn2 : ys.length = n2) (h1 : Vals w [] A1 (xs.map I)) (h2 : Vals w [] A2 (ys.map I)) (hm : n1 ≤ 1000) :
    Calls Try.prog 54 #[.slice A1 n1 c1, .slice A2 n2 c2] w fun e w' => e = .returned (.bool (decide (xs = ys))) ∧ Kept [] w w' := by
  have HN1 := hide hn1
  have HN2 := hide hn2
  have H1 := hide h1
  have H2 := hide h2
  clear hn1 hn2 h1 h2
  by_cases hl : n1 = n2
  · subst hl
    go_enter Try.func54, Try.ntmps54
    go_wp2
    go_loopw [5] (fun i wr => ∃ j : Nat, j ≤ n1 ∧ i = .int .i64 j ∧ Hid (xs.take j = ys.take j) ∧ ∃ d, wr = w.drewN d) (fun i wr => n1 - (intOf i).toNat)
    case atStart => exact ⟨0, Nat.zero_le _, rfl, hide rfl, 0, rfl⟩
    case round =>
      obtain ⟨j, hj, rfl, heq, d, rfl⟩ := hrel
      by_cases hlt : j < n1
      · obtain ⟨x, hx⟩ : ∃ x, xs[j]? = some x := ⟨_, List.getElem?_eq_getElem (by rw [HN1.out]; exact hlt)⟩
        obtain ⟨y, hy⟩ : ∃ y, ys[j]? = some y := ⟨_, List.getElem?_eq_getElem (by rw [HN2.out]; exact hlt)⟩
        obtain ⟨ad1, rfl, _, a0⟩ := H1.out j (I x) (by rw [List.getElem?_map, hx]; rfl)
        obtain ⟨ad2, rfl, _, b0⟩ := H2.out j (I y) (by rw [List.getElem?_map, hy]; rfl)
        unfold I at a0 b0
        have HX := hide hx
        have HY := hide hy
        clear hx hy
        by_cases hxy : x = y
        · subst hxy
          have hne : (x != x) = false := by simp
          have HTK : Hid (xs.take (j + 1) = ys.take (j + 1)) := hide (by rw [List.take_add_one, List.take_add_one, HX.out, HY.out, heq.out])
          go_wp2
          go_quiet (fail)
          go_wp2
          go_roundw
          case rel => exact ⟨j + 1, by omega, by go_num, HTK, _, rfl⟩
          case measure => simp [intOf]; omega
        · have hne : (x != y) = true := by simpa using hxy
          have HNEQ : Hid (decide (xs = ys) = false) := hide (decide_eq_false (fun e => hxy (by
            have a := HX.out
            have b := HY.out
            rw [e, b] at a
            injection a with a
            exact a.symm)))
          clear hxy
          go_wp2
          go_quiet (fail)
          go_wp2
          go_ret
          exact ⟨by rw [HNEQ.out]; rfl, ((Kept.refl [] w).drewN _).drewN _⟩
      · obtain rfl : j = n1 := by omega
        have HE : Hid (decide (xs = ys) = true) := hide (decide_eq_true (by
          have := heq.out
          rw [List.take_of_length_le (by rw [HN1.out]; exact Nat.le_refl _), List.take_of_length_le (by rw [HN2.out]; exact Nat.le_refl _)] at this
          exact this))
        go_wp2
        go_ret
        exact ⟨by rw [HE.out]; rfl, (Kept.refl [] w).drewN _⟩
  · have hl1 : ((n1 : Int) != (n2 : Int)) = true := by rw [bne_iff_ne]; omega
    have HE : Hid (decide (xs = ys) = false) := hide (decide_eq_false (fun e => hl (by rw [← HN1.out, ← HN2.out, e])))
    clear hl
    go_enter Try.func54, Try.ntmps54
    go_wp2
    go_ret
    exact ⟨by rw [HE.out]; rfl, Kept.refl _ _⟩

set_option maxRecDepth 100000 in
theorem uses_any (A1 A2 : Option Addr) (n1 n2 c1 c2 : Nat) (xs ys : List Us) (w : World) (hn1 : xs.length = n1) (hn2 : ys.length = n2) (h1 : Uses w [] A1 xs) (h2 : Uses w [] A2 ys) (hm : n1 ≤ 1000) :
    Calls Try.prog 55 #[.slice A1 n1 c1, .slice A2 n2 c2] w fun e w' => e = .returned (.bool (decide (xs = ys))) ∧ Kept [] w w' := by
  have HN1 := hide hn1
  have HN2 := hide hn2
  have H1 := hide h1
  have H2 := hide h2
  clear hn1 hn2 h1 h2
  by_cases hl : n1 = n2
  · subst hl
    go_enter Try.func55, Try.ntmps55
    go_wp2
    go_loopw [5] (fun i wr => ∃ j : Nat, j ≤ n1 ∧ i = .int .i64 j ∧ Hid (xs.take j = ys.take j) ∧ ∃ d, wr = w.drewN d) (fun i wr => n1 - (intOf i).toNat)
    case atStart => exact ⟨0, Nat.zero_le _, rfl, hide rfl, 0, rfl⟩
    case round =>
      obtain ⟨j, hj, rfl, heq, d, rfl⟩ := hrel
      by_cases hlt : j < n1
      · obtain ⟨x, hx⟩ : ∃ x, xs[j]? = some x := ⟨_, List.getElem?_eq_getElem (by rw [HN1.out]; exact hlt)⟩
        obtain ⟨y, hy⟩ : ∃ y, ys[j]? = some y := ⟨_, List.getElem?_eq_getElem (by rw [HN2.out]; exact hlt)⟩
        obtain ⟨ad1, rfl, _, a0, a1⟩ := H1.out.at_ hx
        obtain ⟨ad2, rfl, _, b0, b1⟩ := H2.out.at_ hy
        have HX := hide hx
        have HY := hide hy
        clear hx hy
        have hne := neq_use x y
        by_cases hxy : x = y
        · subst hxy
          rw [show (!decide (x = x)) = false by simp] at hne
          have HTK : Hid (xs.take (j + 1) = ys.take (j + 1)) := hide (by rw [List.take_add_one, List.take_add_one, HX.out, HY.out, heq.out])
          go_wp2
          go_quiet (fail)
          go_wp2
          go_roundw
          case rel => exact ⟨j + 1, by omega, by go_num, HTK, _, rfl⟩
          case measure => simp [intOf]; omega
        · rw [show (!decide (x = y)) = true by simp [hxy]] at hne
          have HNEQ : Hid (decide (xs = ys) = false) := hide (decide_eq_false (fun e => hxy (by
            have a := HX.out
            have b := HY.out
            rw [e, b] at a
            injection a with a
            exact a.symm)))
          clear hxy
          go_wp2
          go_quiet (fail)
          go_wp2
          go_ret
          exact ⟨by rw [HNEQ.out]; rfl, ((Kept.refl [] w).drewN _).drewN _⟩
      · obtain rfl : j = n1 := by omega
        have HE : Hid (decide (xs = ys) = true) := hide (decide_eq_true (by
          have := heq.out
          rw [List.take_of_length_le (by rw [HN1.out]; exact Nat.le_refl _), List.take_of_length_le (by rw [HN2.out]; exact Nat.le_refl _)] at this
          exact this))
        go_wp2
        go_ret
        exact ⟨by rw [HE.out]; rfl, (Kept.refl [] w).drewN _⟩
  · have hl1 : ((n1 : Int) != (n2 : Int)) = true := by rw [bne_iff_ne]; omega
    have HE : Hid (decide (xs = ys) = false) := hide (decide_eq_false (fun e => hl (by rw [← HN1.out, ← HN2.out, e])))
    clear hl
    go_enter Try.func55, Try.ntmps55
    go_wp2
    go_ret
    exact ⟨by rw [HE.out]; rfl, Kept.refl _ _⟩

set_option maxRecDepth 100000 in
set_option maxHeartbeats 1000000 in
/-- The same region, whichever slices it is read from. -/
theorem same_any (R : Rg) (X Y : Sl) (w : World) (h1 : RgIn w [] X R) (h2 : RgIn w [] Y R) (hX : X.small) :
    Calls Try.prog 18 #[R.val X, R.val Y] w fun e w' => e = .returned (.bool true) ∧ Kept [] w w' := by
  obtain ⟨hs1, hs2, hs3⟩ := hX
  obtain ⟨wa, hwa⟩ : ∃ wa, w.alloc (.cells (R.cells X) 28) = wa := ⟨_, rfl⟩
  have hka : Kept [] w wa := by rw [← hwa]; exact (Kept.refl [] w).alloc _
  have hba : Blk wa w.heap.size 28 (R.cells X) := by rw [← hwa]; exact Blk.new w _ _
  obtain ⟨q, hq⟩ : ∃ q, w.heap.size = q := ⟨_, rfl⟩
  rw [hq] at hba
  obtain ⟨w0, hw0⟩ : ∃ w0, wa.alloc (.cells (R.cells Y) 28) = w0 := ⟨_, rfl⟩
  have hk0 : Kept [] wa w0 := by rw [← hw0]; exact (Kept.refl [] wa).alloc _
  have hb0 : Blk w0 wa.heap.size 28 (R.cells Y) := by rw [← hw0]; exact Blk.new wa _ _
  obtain ⟨g, hg⟩ : ∃ g, wa.heap.size = g := ⟨_, rfl⟩
  rw [hg] at hb0
  unfold Rg.cells at hwa hw0
  have hk := hka.trans hk0 (by simp)
  have HX := hide (h1.kept hk (by simp))
  have HY := hide (h2.kept hk (by simp))
  have HQ := hide (hk0.blk hba (by simp))
  have HB := hide hb0
  have HK := hide hk
  obtain ⟨c0, c1, c2, c3, c4, c5, c6, c7, c8, c9, c10, c11, c12, c13⟩ := cell14 HQ.out
  obtain ⟨d0, d1, d2, d3, d4, d5, d6, d7, d8, d9, d10, d11, d12, d13⟩ := cell14 hb0
  have he := eql_pos R.s R.o R.l R.p R.k R.s R.o R.l R.p R.k
  rw [decide_eq_true (show R.s = R.s ∧ R.o = R.o ∧ R.l = R.l ∧ R.p = R.p ∧ R.k = R.k from ⟨rfl, rfl, rfl, rfl, rfl⟩)] at he
  clear hk0 hb0 hk hka hba h1 h2
  unfold Rg.val
  go_enter Try.func18, Try.ntmps18
  simp only [List.append_eq, List.cons_append, List.nil_append]
  go_wp2_with fail
  refine (ints_any X.A Y.A X.a Y.a X.ca Y.ca R.bs R.bs _ HX.out.ha HY.out.ha HX.out.bs HY.out.bs hs1).mono ?_
  rintro e w1 ⟨rfl, hk⟩
  rw [decide_eq_true rfl]
  have HX1 := hide (HX.out.kept hk (by simp))
  have HY1 := hide (HY.out.kept hk (by simp))
  have HQ1 := hide (hk.blk HQ.out (by simp))
  have HB1 := hide (hk.blk HB.out (by simp))
  have HK1 := hide (HK.out.trans hk (by simp))
  clear hk HX HY HQ HB HK c0 c1 c2 c3 c4 c5 c6 c7 c8 c9 c10 c11 c12 c13 d0 d1 d2 d3 d4 d5 d6 d7 d8 d9 d10 d11 d12 d13 he hwa hw0
  obtain ⟨c0, c1, c2, c3, c4, c5, c6, c7, c8, c9, c10, c11, c12, c13⟩ := cell14 HQ1.out
  obtain ⟨d0, d1, d2, d3, d4, d5, d6, d7, d8, d9, d10, d11, d12, d13⟩ := cell14 HB1.out
  go_wp2_with fail
  refine (ints_any X.O Y.O X.o Y.o X.co Y.co R.ov R.ov _ HX1.out.ho HY1.out.ho HX1.out.ov HY1.out.ov hs2).mono ?_
  rintro e w2 ⟨rfl, hk⟩
  rw [decide_eq_true rfl]
  have HX2 := hide (HX1.out.kept hk (by simp))
  have HY2 := hide (HY1.out.kept hk (by simp))
  have HQ2 := hide (hk.blk HQ1.out (by simp))
  have HB2 := hide (hk.blk HB1.out (by simp))
  have HK2 := hide (HK1.out.trans hk (by simp))
  clear hk HX1 HY1 HQ1 HB1 HK1 c0 c1 c2 c3 c4 c5 c6 c7 c8 c9 c10 c11 c12 c13 d0 d1 d2 d3 d4 d5 d6 d7 d8 d9 d10 d11 d12 d13
  obtain ⟨c0, c1, c2, c3, c4, c5, c6, c7, c8, c9, c10, c11, c12, c13⟩ := cell14 HQ2.out
  obtain ⟨d0, d1, d2, d3, d4, d5, d6, d7, d8, d9, d10, d11, d12, d13⟩ := cell14 HB2.out
  go_wp2_with fail
  refine (uses_any X.U Y.U X.u Y.u X.cu Y.cu R.us R.us _ HX2.out.hu HY2.out.hu HX2.out.us HY2.out.us hs3).mono ?_
  rintro e w3 ⟨rfl, hk⟩
  rw [decide_eq_true rfl]
  have HK3 := hide (HK2.out.trans hk (by simp))
  clear hk
  go_wp2
  go_ret
  exact ⟨rfl, HK3.out⟩
end Go.Proofs.Ythacnlpdodlggaa.rg
