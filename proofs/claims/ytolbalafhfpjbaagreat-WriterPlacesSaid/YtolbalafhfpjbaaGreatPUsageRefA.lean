import Derived.Test.YtolbalafhfpjbaaGreatPUsageOps
import Derived.Test.YtolbalafhfpjbaaGreatPAlike
set_option maxRecDepth 100000
namespace Go.Proofs.YtolbalafhfpjbaaGreat.us
set_option linter.unusedSimpArgs false
open Go.RowKit mem base geom
section
variable {w : World} {p U L : Nat} {b s l r q : Int} {rs : List Rw}
theorem rthere_any (h : RAt w p U L b s l r q rs) (i : Int) :
  Calls Tryz.prog 163 #[.pointer (some ⟨p, 0, none⟩), .int .i64 i] w fun e w' => e = .returned (.bool (isSeg rs i)) ∧ w = w' := by
 have c1 := h.c1
 have hb := h.bounds
 have he : Hid ((decide (0 ≤ i) && decide (i ≤ (rs.length : Int) - 1)) = isSeg rs i) := hide (by unfold isSeg; congr 2; apply propext; omega)
 have hw : IntKind.i64.wrap ((rs.length : Int) - 1) = (rs.length : Int) - 1 := IntWalk.i64_in _ (by omega)
 clear h
 go_enter Tryz.func163, Tryz.ntmps163
 go_wp2_with fail
 refine (within_any i 0 ((rs.length : Int) - 1) _).mono ?_
 rintro e w' ⟨rfl, rfl⟩
 rw [he.out]
 go_wp2
 go_ret
 exact ⟨rfl, rfl⟩

theorem rshut_any (h : RAt w p U L b s l r q rs) (i : Int) :
  Calls Tryz.prog 100 #[.pointer (some ⟨p, 0, none⟩), .int .i64 i] w fun e w' => e = .returned (.tuple #[]) ∧ RAt w' p U L b s l r q (shutOf rs i) ∧ Kept [U] w w' := by
 have H := hide h
 have hb := h.bounds
 have c1 := h.c1
 unfold shutOf
 rcases seg_cases rs i with ⟨k, x, rfl, hx⟩ | hi
 ·rw [upd_yes hx]
  unfold Rw.shut
  have HY := hide (isSeg_yes hx)
  have hlt : k < rs.length := (List.getElem?_eq_some_iff.1 hx).1
  obtain ⟨d0, d1⟩ := h.uses hx
  have f0 := h.use.frozen (k * 2)
  by_cases h1 : x.s = 1
  ·rw [if_pos h1]
   rw [h1] at d0
   have hg : (⟨2, x.t, x.n⟩ : Rw).good := by
    obtain ⟨_, h2, h3⟩ := h.at_good hx
    exact ⟨by simp, h2, h3⟩
   have hz := hide (h.put (x := x) (y := ⟨2, x.t, x.n⟩) 0 (by omega) hx hg 2 rfl rfl)
   have hzk := hide ((Kept.refl [U] w).set_ (b := U) (.inl (by simp)) (k * 2) (.int .i64 2))
   clear h hx h1 hg
   go_enter Tryz.func100, Tryz.ntmps100
   go_wp2_with fail
   refine (rthere_any H.out _).mono ?_
   rintro e w1 ⟨rfl, rfl⟩
   rw [HY.out]
   go_wp2
   go_end0
   exact ⟨rfl, hz.out, hzk.out⟩
  ·rw [if_neg h1, set_same_row hx]
   have hE : (x.s == 1) = false := beq_eq_false_iff_ne.2 h1
   clear h hx h1
   go_enter Tryz.func100, Tryz.ntmps100
   go_wp2_with fail
   refine (rthere_any H.out _).mono ?_
   rintro e w1 ⟨rfl, rfl⟩
   rw [HY.out]
   go_wp2
   go_end0
   exact ⟨rfl, H.out, Kept.refl _ _⟩
 ·rw [upd_no hi]
  have HY := hide (isSeg_no hi)
  clear h hi
  go_enter Tryz.func100, Tryz.ntmps100
  go_wp2_with fail
  refine (rthere_any H.out _).mono ?_
  rintro e w1 ⟨rfl, rfl⟩
  rw [HY.out]
  go_wp2
  go_end0
  exact ⟨rfl, H.out, Kept.refl _ _⟩

theorem rgrab_any (h : RAt w p U L b s l r q rs) (i : Int) :
  Calls Tryz.prog 98 #[.pointer (some ⟨p, 0, none⟩), .int .i64 i] w fun e w' => e = .returned (.bool (grabs rs i)) ∧ RAt w' p U L b s l r q (grabOf rs i) ∧ Kept [U, L] w w' := by
 have H := hide h
 have hb := h.bounds
 have c1 := h.c1
 unfold grabOf grabs
 rcases seg_cases rs i with ⟨k, x, rfl, hx⟩ | hi
 ·rw [upd_yes hx, rowAt_yes hx, isSeg_yes hx, Bool.true_and]
  unfold Rw.grab
  have HY := hide (isSeg_yes hx)
  have hlt : k < rs.length := (List.getElem?_eq_some_iff.1 hx).1
  obtain ⟨d0, d1⟩ := h.uses hx
  by_cases h1 : x.s = 0
  ·rw [if_pos h1, decide_eq_true h1]
   rw [h1] at d0
   have hE : ((0 : Int) != 0) = false := rfl
   have G1 : (⟨1, x.t, x.n⟩ : Rw).good := by
    obtain ⟨_, h2, h3⟩ := h.at_good hx
    exact ⟨by simp, h2, h3⟩
   have G2 : (⟨1, x.t, 0⟩ : Rw).good := by
    obtain ⟨_, h2, h3⟩ := h.at_good hx
    exact ⟨by simp, h2, by simp⟩
   have f0 := h.use.frozen (k * 2)
   have h2 := h.put (x := x) (y := ⟨1, x.t, x.n⟩) 0 (by omega) hx G1 1 rfl rfl
   have hx2 : (rs.set k (⟨1, x.t, x.n⟩ : Rw))[k]? = some ⟨1, x.t, x.n⟩ := by rw [List.getElem?_set, if_pos rfl, if_pos hlt]
   have h3 := h2.puts hx2 (y := ⟨1, x.t, 0⟩) G2 rfl
   rw [List.set_set] at h3
   have hk2 := (Kept.refl [U, L] w).set_ (b := U) (.inl (by simp)) (k * 2) (.int .i64 1)
   have HK := hide (hk2.set_ (b := L) (.inl (by simp)) k (.int .i64 0))
   rw [Nat.add_zero] at h2 h3
   obtain ⟨w2, hw2⟩ : ∃ w2, w.setCell ⟨U, k * 2, none⟩ (.int .i64 1) = w2 := ⟨_, rfl⟩
   rw [hw2] at h2 h3 HK
   have c2 := h2.c2
   rw [List.length_set] at c2
   have e0 := h2.live hx2
   have fe := h2.liv.frozen k
   have HZ := hide h3
   clear h hx h1 G1 G2 h2 h3 hk2 hx2
   go_enter Tryz.func98, Tryz.ntmps98
   go_wp2_with fail
   refine (rthere_any H.out _).mono ?_
   rintro e w1 ⟨rfl, rfl⟩
   rw [HY.out]
   go_wp2
   go_ret
   exact ⟨rfl, HZ.out, HK.out⟩
  ·rw [if_neg h1, set_same_row hx, decide_eq_false h1]
   have hE : (x.s != 0) = true := bne_iff_ne.2 h1
   clear h hx h1
   go_enter Tryz.func98, Tryz.ntmps98
   go_wp2_with fail
   refine (rthere_any H.out _).mono ?_
   rintro e w1 ⟨rfl, rfl⟩
   rw [HY.out]
   go_wp2
   go_ret
   exact ⟨rfl, H.out, Kept.refl _ _⟩
 ·rw [upd_no hi, isSeg_no hi]
  have HY := hide (isSeg_no hi)
  clear h hi
  go_enter Tryz.func98, Tryz.ntmps98
  go_wp2_with fail
  refine (rthere_any H.out _).mono ?_
  rintro e w1 ⟨rfl, rfl⟩
  rw [HY.out]
  go_wp2
  go_ret
  exact ⟨rfl, H.out, Kept.refl _ _⟩

end
end Go.Proofs.YtolbalafhfpjbaaGreat.us
