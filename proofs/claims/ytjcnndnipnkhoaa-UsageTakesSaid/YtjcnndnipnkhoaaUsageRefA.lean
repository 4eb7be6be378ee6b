/- The reference's table: there, Use, Lives, Touch, Seal, Grab, Add. -/
import Derived.Test.YtjcnndnipnkhoaaUsageOps
import Derived.Test.YtjcnndnipnkhoaaAlike
namespace Go.Proofs.Ytjcnndnipnkhoaa.us
set_option linter.unusedSimpArgs false
open Go.RowKit Go.Proofs.Ytjcnndnipnkhoaa.mem Go.Proofs.Ytjcnndnipnkhoaa.base Go.Proofs.Ytjcnndnipnkhoaa.geom

section
variable {w : World} {p U L : Nat} {b s l r q : Int} {rs : List Rw}

theorem rthere_any (h : RAt w p U L b s l r q rs) (i : Int) :
    Calls Try.prog 53 #[.pointer (some ⟨p, 0, none⟩), .int .i64 i] w fun e w' => e = .returned (.bool (isSeg rs i)) ∧ w = w' := by
  have c1 := h.c1
  have hb := h.bounds
  have he : Hid ((decide (0 ≤ i) && decide (i ≤ (rs.length : Int) - 1)) = isSeg rs i) := hide (by unfold isSeg; congr 2; apply propext; omega)
  have hw : IntKind.i64.wrap ((rs.length : Int) - 1) = (rs.length : Int) - 1 := IntWalk.i64_in _ (by omega)
  clear h
  go_enter Try.func53, Try.ntmps53
  go_wp2_with fail
  refine (within_any i 0 ((rs.length : Int) - 1) _).mono ?_
  rintro e w' ⟨rfl, rfl⟩
  rw [he.out]
  go_wp2
  go_ret
  exact ⟨rfl, rfl⟩

set_option maxRecDepth 100000 in
theorem ruse_any (h : RAt w p U L b s l r q rs) (i : Int) :
    Calls Try.prog 42 #[.pointer (some ⟨p, 0, none⟩), .int .i64 i] w fun e w' => e = .returned (.agg #[.int .i64 (rowAt rs i).s, .int .i64 (rowAt rs i).t]) ∧ Kept [] w w' := by
  have HK := hide fun vs : Array Value => (Kept.refl [] w).alloc (.cells vs 61)
  have H := hide (h.keep ((Kept.refl [] w).alloc (.cells #[.int .i64 0, .int .i64 0] 61)))
  have hb := h.bounds
  rcases seg_cases rs i with ⟨k, x, rfl, hx⟩ | hi
  · rw [rowAt_yes hx]
    have HY := hide (isSeg_yes hx)
    have c1 := H.out.c1
    obtain ⟨d0, d1⟩ := H.out.uses hx
    have hlt : k < rs.length := (List.getElem?_eq_some_iff.1 hx).1
    clear h hx
    go_enter Try.func42, Try.ntmps42
    go_wp2_with fail
    refine (rthere_any H.out _).mono ?_
    rintro e w' ⟨rfl, rfl⟩
    rw [HY.out]
    go_wp2
    refine bodyPost_ret (v := .agg #[.int .i64 x.s, .int .i64 x.t]) (by simp [results, Try.results42, go_sem]) rfl ⟨rfl, ?_⟩
    exact HK.out _
  · rw [rowAt_no hi]
    have HY := hide (isSeg_no hi)
    clear h hi
    go_enter Try.func42, Try.ntmps42
    go_wp2_with fail
    refine (rthere_any H.out _).mono ?_
    rintro e w' ⟨rfl, rfl⟩
    rw [HY.out]
    go_wp2
    refine bodyPost_ret (v := .agg #[.int .i64 0, .int .i64 0]) (by simp [results, Try.results42, go_sem]) rfl ⟨rfl, ?_⟩
    exact HK.out _

set_option maxRecDepth 100000 in
theorem rlives_any (h : RAt w p U L b s l r q rs) (i : Int) :
    Calls Try.prog 44 #[.pointer (some ⟨p, 0, none⟩), .int .i64 i] w fun e w' => e = .returned (.int .i64 (rowAt rs i).n) ∧ w = w' := by
  have H := hide h
  have hb := h.bounds
  rcases seg_cases rs i with ⟨k, x, rfl, hx⟩ | hi
  · rw [rowAt_yes hx]
    have HY := hide (isSeg_yes hx)
    have c1 := H.out.c2
    have d0 := H.out.live hx
    have hlt : k < rs.length := (List.getElem?_eq_some_iff.1 hx).1
    clear h hx
    go_enter Try.func44, Try.ntmps44
    go_wp2_with fail
    refine (rthere_any H.out _).mono ?_
    rintro e w' ⟨rfl, rfl⟩
    rw [HY.out]
    go_wp2
    go_ret
    exact ⟨rfl, rfl⟩
  · rw [rowAt_no hi]
    have HY := hide (isSeg_no hi)
    clear h hi
    go_enter Try.func44, Try.ntmps44
    go_wp2_with fail
    refine (rthere_any H.out _).mono ?_
    rintro e w' ⟨rfl, rfl⟩
    rw [HY.out]
    go_wp2
    go_ret
    exact ⟨rfl, rfl⟩

set_option maxRecDepth 100000 in
theorem rtouch_any (h : RAt w p U L b s l r q rs) (i n : Int) :
    Calls Try.prog 16 #[.pointer (some ⟨p, 0, none⟩), .int .i64 i, .int .i64 n] w fun e w' => e = .returned (.tuple #[]) ∧ RAt w' p U L b s l r q (touchOf rs i n) ∧ Kept [U] w w' := by
  have H := hide h
  have hb := h.bounds
  unfold touchOf
  rcases seg_cases rs i with ⟨k, x, rfl, hx⟩ | hi
  · rw [upd_yes hx]
    have HY := hide (isSeg_yes hx)
    by_cases hn : isNum n = true
    · rw [if_pos hn]
      have HN := hide hn
      unfold isNum at HN
      have hlt : k < rs.length := (List.getElem?_eq_some_iff.1 hx).1
      have c1 := h.c1
      obtain ⟨d0, d1⟩ := h.uses hx
      have f1 := h.use.frozen (k * 2 + 1)
      have hg : (⟨x.s, n, x.n⟩ : Rw).good := by
        obtain ⟨h1, h2, h3⟩ := h.at_good hx
        refine ⟨h1, ?_, h3⟩
        simp only [isNum, Bool.and_eq_true, decide_eq_true_eq] at hn
        exact hn
      have hz := hide (h.put (x := x) (y := ⟨x.s, n, x.n⟩) 1 (by omega) hx hg n rfl rfl)
      have hzk := hide ((Kept.refl [U] w).set_ (b := U) (.inl (by simp)) (k * 2 + 1) (.int .i64 n))
      clear h hx hn hg
      go_enter Try.func16, Try.ntmps16
      go_wp2_with fail
      refine (rthere_any H.out _).mono ?_
      rintro e w1 ⟨rfl, rfl⟩
      rw [HY.out]
      go_wp2_with fail
      refine (within_any n 0 2147483647 _).mono ?_
      rintro e w1 ⟨rfl, rfl⟩
      rw [HN.out]
      go_wp2
      go_end0
      exact ⟨rfl, hz.out, hzk.out⟩
    · rw [if_neg hn]
      have HN := hide ((Bool.not_eq_true _).mp hn)
      unfold isNum at HN
      clear h hx hn
      go_enter Try.func16, Try.ntmps16
      go_wp2_with fail
      refine (rthere_any H.out _).mono ?_
      rintro e w1 ⟨rfl, rfl⟩
      rw [HY.out]
      go_wp2_with fail
      refine (within_any n 0 2147483647 _).mono ?_
      rintro e w1 ⟨rfl, rfl⟩
      rw [HN.out]
      go_wp2
      go_end0
      exact ⟨rfl, H.out, Kept.refl _ _⟩
  · rw [upd_no hi, ite_self]
    have HY := hide (isSeg_no hi)
    clear h hi
    go_enter Try.func16, Try.ntmps16
    go_wp2_with fail
    refine (rthere_any H.out _).mono ?_
    rintro e w1 ⟨rfl, rfl⟩
    rw [HY.out]
    go_wp2
    go_end0
    exact ⟨rfl, H.out, Kept.refl _ _⟩

set_option maxRecDepth 100000 in
theorem rshut_any (h : RAt w p U L b s l r q rs) (i : Int) :
    Calls Try.prog 22 #[.pointer (some ⟨p, 0, none⟩), .int .i64 i] w fun e w' => e = .returned (.tuple #[]) ∧ RAt w' p U L b s l r q (shutOf rs i) ∧ Kept [U] w w' := by
  have H := hide h
  have hb := h.bounds
  have c1 := h.c1
  unfold shutOf
  rcases seg_cases rs i with ⟨k, x, rfl, hx⟩ | hi
  · rw [upd_yes hx]
    unfold Rw.shut
    have HY := hide (isSeg_yes hx)
    have hlt : k < rs.length := (List.getElem?_eq_some_iff.1 hx).1
    obtain ⟨d0, d1⟩ := h.uses hx
    have f0 := h.use.frozen (k * 2)
    by_cases h1 : x.s = 1
    · rw [if_pos h1]
      rw [h1] at d0
      have hg : (⟨2, x.t, x.n⟩ : Rw).good := by
        obtain ⟨_, h2, h3⟩ := h.at_good hx
        exact ⟨by simp, h2, h3⟩
      have hz := hide (h.put (x := x) (y := ⟨2, x.t, x.n⟩) 0 (by omega) hx hg 2 rfl rfl)
      have hzk := hide ((Kept.refl [U] w).set_ (b := U) (.inl (by simp)) (k * 2) (.int .i64 2))
      clear h hx h1 hg
      go_enter Try.func22, Try.ntmps22
      go_wp2_with fail
      refine (rthere_any H.out _).mono ?_
      rintro e w1 ⟨rfl, rfl⟩
      rw [HY.out]
      go_wp2
      go_end0
      exact ⟨rfl, hz.out, hzk.out⟩
    · rw [if_neg h1, set_same_row hx]
      have hE : (x.s == 1) = false := beq_eq_false_iff_ne.2 h1
      clear h hx h1
      go_enter Try.func22, Try.ntmps22
      go_wp2_with fail
      refine (rthere_any H.out _).mono ?_
      rintro e w1 ⟨rfl, rfl⟩
      rw [HY.out]
      go_wp2
      go_end0
      exact ⟨rfl, H.out, Kept.refl _ _⟩
  · rw [upd_no hi]
    have HY := hide (isSeg_no hi)
    clear h hi
    go_enter Try.func22, Try.ntmps22
    go_wp2_with fail
    refine (rthere_any H.out _).mono ?_
    rintro e w1 ⟨rfl, rfl⟩
    rw [HY.out]
    go_wp2
    go_end0
    exact ⟨rfl, H.out, Kept.refl _ _⟩

set_option maxRecDepth 100000 in
theorem rgrab_any (h : RAt w p U L b s l r q rs) (i : Int) :
    Calls Try.prog 19 #[.pointer (some ⟨p, 0, none⟩), .int .i64 i] w fun e w' => e = .returned (.bool (grabs rs i)) ∧ RAt w' p U L b s l r q (grabOf rs i) ∧ Kept [U, L] w w' := by
  have H := hide h
  have hb := h.bounds
  have c1 := h.c1
  unfold grabOf grabs
  rcases seg_cases rs i with ⟨k, x, rfl, hx⟩ | hi
  · rw [upd_yes hx, rowAt_yes hx, isSeg_yes hx, Bool.true_and]
    unfold Rw.grab
    have HY := hide (isSeg_yes hx)
    have hlt : k < rs.length := (List.getElem?_eq_some_iff.1 hx).1
    obtain ⟨d0, d1⟩ := h.uses hx
    by_cases h1 : x.s = 0
    · rw [if_pos h1, decide_eq_true h1]
      rw [h1] at d0
      have hE : ((0 : Int) != 0) = false := rfl
      have G1 : (⟨1, x.t, x.n⟩ : Rw).good := by
        obtain ⟨_, h2, h3⟩ := h.at_good hx
        exact ⟨by simp, h2, h3⟩
      have G2 : (⟨1, x.t, 0⟩ : Rw).good := by
        obtain ⟨_, h2, h3⟩ := h.at_good hx
        exact ⟨by simp, h2, by simp⟩
      have f0 := h.use.frozen (k * 2)
      have h2 := h.put (x := x) (y := ⟨1, x.t, x.n⟩) 0 (by omega) hx G1 1 rfl rfl
      have hx2 : (rs.set k (⟨1, x.t, x.n⟩ : Rw))[k]? = some ⟨1, x.t, x.n⟩ := by rw [List.getElem?_set, if_pos rfl, if_pos hlt]
      have h3 := h2.puts hx2 (y := ⟨1, x.t, 0⟩) G2 rfl
      rw [List.set_set] at h3
      have hk2 := (Kept.refl [U, L] w).set_ (b := U) (.inl (by simp)) (k * 2) (.int .i64 1)
      have HK := hide (hk2.set_ (b := L) (.inl (by simp)) k (.int .i64 0))
      rw [Nat.add_zero] at h2 h3
      obtain ⟨w2, hw2⟩ : ∃ w2, w.setCell ⟨U, k * 2, none⟩ (.int .i64 1) = w2 := ⟨_, rfl⟩
      rw [hw2] at h2 h3 HK
      have c2 := h2.c2
      rw [List.length_set] at c2
      have e0 := h2.live hx2
      have fe := h2.liv.frozen k
      have HZ := hide h3
      clear h hx h1 G1 G2 h2 h3 hk2 hx2
      go_enter Try.func19, Try.ntmps19
      go_wp2_with fail
      refine (rthere_any H.out _).mono ?_
      rintro e w1 ⟨rfl, rfl⟩
      rw [HY.out]
      go_wp2
      go_ret
      exact ⟨rfl, HZ.out, HK.out⟩
    · rw [if_neg h1, set_same_row hx, decide_eq_false h1]
      have hE : (x.s != 0) = true := bne_iff_ne.2 h1
      clear h hx h1
      go_enter Try.func19, Try.ntmps19
      go_wp2_with fail
      refine (rthere_any H.out _).mono ?_
      rintro e w1 ⟨rfl, rfl⟩
      rw [HY.out]
      go_wp2
      go_ret
      exact ⟨rfl, H.out, Kept.refl _ _⟩
  · rw [upd_no hi, isSeg_no hi]
    have HY := hide (isSeg_no hi)
    clear h hi
    go_enter Try.func19, Try.ntmps19
    go_wp2_with fail
    refine (rthere_any H.out _).mono ?_
    rintro e w1 ⟨rfl, rfl⟩
    rw [HY.out]
    go_wp2
    go_ret
    exact ⟨rfl, H.out, Kept.refl _ _⟩

set_option maxRecDepth 100000 in
set_option maxHeartbeats 1000000 in
theorem radd_any (h : RAt w p U L b s l r q rs) (a by_ : Int) (ha0 : -9223372036854775808 ≤ a ∧ a ≤ 9223372036854775807) :
    Calls Try.prog 14 #[.pointer (some ⟨p, 0, none⟩), .int .i64 a, .int .i64 by_] w fun e w' => e = .returned (.bool (decide (addIn s l r q a))) ∧ RAt w' p U L b s l r q (addOf s l r q rs a by_) ∧ Kept [L] w w' := by
  have H := hide h
  have HF := hide h.rf
  obtain ⟨c0, c1, c2⟩ := h.c0
  unfold addOf
  by_cases ha : addIn s l r q a
  · obtain ⟨k, x, hk, hx⟩ := add_seg h.ok h.len ha
    rw [if_pos ha, hk, upd_yes hx, decide_eq_true ha]
    have HW : Hid (whereOf s l r q a = .tuple #[.int .i64 k, .int .i64 ((a - (2 + 2 * r + 4 * q)) % l), .bool true]) := hide (by unfold whereOf; unfold addIn at ha; rw [if_pos ha, hk])
    have HX := hide hx
    have hlt : k < rs.length := (List.getElem?_eq_some_iff.1 hx).1
    have hb := h.bounds
    obtain ⟨_, _, g1, g2⟩ := h.at_good hx
    have HG := hide (Rw.plus_good (h.at_good hx) by_)
    have n1 : IntKind.i64.wrap (-x.n) = -x.n := IntWalk.i64_in _ (by omega)
    have n2 : IntKind.i64.wrap (2147483647 - x.n) = 2147483647 - x.n := IntWalk.i64_in _ (by omega)
    clear h ha hk hx
    by_cases h1 : by_ < -x.n
    · have hv : Hid ((x.plus by_).n = 0) := hide (by have e : least x by_ = by_ := if_neg (by omega); simp only [Rw.plus, e]; split <;> omega)
      have n3 : IntKind.i64.wrap (x.n + -x.n) = 0 := by rw [show x.n + -x.n = 0 by omega]; rfl
      have n4 : ¬ (2147483647 - x.n < -x.n) := by omega
      go_enter Try.func14, Try.ntmps14
      go_wp2_with fail
      refine (rwhere b s l r q a _ HF.out ha0).mono ?_
      rintro e w1 ⟨rfl, hk1⟩
      rw [HW.out]
      have H1 := hide (H.out.keep hk1)
      have HK1 := hide hk1
      have cL := H1.out.c2
      have dL := H1.out.live HX.out
      have fL := H1.out.liv.frozen k
      have HZ := hide ((H1.out.keep (Kept.refl [] w1).drew).puts HX.out HG.out (y := x.plus by_) rfl)
      rw [hv.out] at HZ
      have HKZ := hide (((HK1.out.mono (S' := [L]) (by simp)).drew).set_ (b := L) (.inl (by simp)) k (.int .i64 0))
      clear hk1
      go_wp2
      go_still_tail 15, (by kernel_rfl)
      change wpList _ _ _ _ _ (World.drew w1)
      go_wp2
      go_ret
      exact ⟨rfl, HZ.out, HKZ.out⟩
    · by_cases h2 : 2147483647 - x.n < by_
      · have hv : Hid ((x.plus by_).n = 2147483647) := hide (by have e : least x by_ = 2147483647 - x.n := if_pos h2; simp only [Rw.plus, e]; split <;> omega)
        have n3 : IntKind.i64.wrap (x.n + (2147483647 - x.n)) = 2147483647 := by rw [show x.n + (2147483647 - x.n) = 2147483647 by omega]; rfl
        go_enter Try.func14, Try.ntmps14
        go_wp2_with fail
        refine (rwhere b s l r q a _ HF.out ha0).mono ?_
        rintro e w1 ⟨rfl, hk1⟩
        rw [HW.out]
        have H1 := hide (H.out.keep hk1)
        have HK1 := hide hk1
        have cL := H1.out.c2
        have dL := H1.out.live HX.out
        have fL := H1.out.liv.frozen k
        have HZ := hide ((H1.out.keep (Kept.refl [] w1).drew).puts HX.out HG.out (y := x.plus by_) rfl)
        rw [hv.out] at HZ
        have HKZ := hide (((HK1.out.mono (S' := [L]) (by simp)).drew).set_ (b := L) (.inl (by simp)) k (.int .i64 2147483647))
        clear hk1
        go_wp2
        go_still_tail 15, (by kernel_rfl)
        change wpList _ _ _ _ _ (World.drew w1)
        go_wp2
        go_ret
        exact ⟨rfl, HZ.out, HKZ.out⟩
      · have hv : Hid ((x.plus by_).n = x.n + by_) := hide (by have e : least x by_ = by_ := if_neg h2; simp only [Rw.plus, e]; split <;> omega)
        have n3 : IntKind.i64.wrap (x.n + by_) = x.n + by_ := IntWalk.i64_in _ (by omega)
        go_enter Try.func14, Try.ntmps14
        go_wp2_with fail
        refine (rwhere b s l r q a _ HF.out ha0).mono ?_
        rintro e w1 ⟨rfl, hk1⟩
        rw [HW.out]
        have H1 := hide (H.out.keep hk1)
        have HK1 := hide hk1
        have cL := H1.out.c2
        have dL := H1.out.live HX.out
        have fL := H1.out.liv.frozen k
        have HZ := hide ((H1.out.keep (Kept.refl [] w1).drew).puts HX.out HG.out (y := x.plus by_) rfl)
        rw [hv.out] at HZ
        have HKZ := hide (((HK1.out.mono (S' := [L]) (by simp)).drew).set_ (b := L) (.inl (by simp)) k (.int .i64 (x.n + by_)))
        clear hk1
        go_wp2
        go_still_tail 15, (by kernel_rfl)
        change wpList _ _ _ _ _ (World.drew w1)
        go_wp2
        go_ret
        exact ⟨rfl, HZ.out, HKZ.out⟩
  · rw [if_neg ha, decide_eq_false ha]
    have HW : Hid (whereOf s l r q a = .tuple #[.int .i64 0, .int .i64 0, .bool false]) := hide (by unfold whereOf; unfold addIn at ha; rw [if_neg ha])
    clear h ha
    go_enter Try.func14, Try.ntmps14
    go_wp2_with fail
    refine (rwhere b s l r q a _ HF.out ha0).mono ?_
    rintro e w1 ⟨rfl, hk1⟩
    rw [HW.out]
    have H1 := hide (H.out.keep hk1)
    have HK1 := hide hk1
    clear hk1
    go_wp2
    go_ret
    exact ⟨rfl, H1.out, HK1.out.mono (by simp)⟩
end
end Go.Proofs.Ytjcnndnipnkhoaa.us
