import Derived.Test.YtolbalafhfpjbaaGreatPUsageSmall
set_option maxRecDepth 100000
namespace Go.Proofs.YtolbalafhfpjbaaGreat.us
set_option linter.unusedSimpArgs false
open Go.RowKit mem base geom
def least (x : Rw) (by_ : Int) : Int := if 2147483647 - x.n < by_ then 2147483647 - x.n else by_
def addIn (s l r q a : Int) : Prop := 2 + 2 * r + 4 * q ≤ a ∧ a < 2 + 2 * r + 4 * q + s * l
instance (s l r q a : Int) : Decidable (addIn s l r q a) := by unfold addIn; infer_instance
section
variable {w : World} {p V : Nat} {b s l r q : Int} {rs : List Rw}
theorem touch_any (h : TAt w p V b s l r q rs) (i n : Int) :
  Calls Tryz.prog 175 #[.pointer (some ⟨p, 0, none⟩), .int .i64 i, .int .i64 n] w fun e w' => e = .returned (.tuple #[]) ∧ TAt w' p V b s l r q (touchOf rs i n) ∧ Kept [V] w w' := by
 have H := hide h
 have hb := h.bounds
 unfold touchOf
 rcases seg_cases rs i with ⟨k, x, rfl, hx⟩ | hi
 ·rw [upd_yes hx]
  have HY := hide (isSeg_yes hx)
  by_cases hn : isNum n = true
  ·rw [if_pos hn]
   have HN := hide hn
   have hlt : k < rs.length := (List.getElem?_eq_some_iff.1 hx).1
   have c1 := h.c1
   obtain ⟨d0, d1, d2⟩ := h.cells hx
   have f1 := h.seg.frozen (k * 3 + 1)
   have hg : (⟨x.s, n, x.n⟩ : Rw).good := by
    obtain ⟨h1, h2, h3⟩ := h.at_good hx
    refine ⟨h1, ?_, h3⟩
    simp only [isNum, Bool.and_eq_true, decide_eq_true_eq] at hn
    exact hn
   have hz := hide (h.put (x := x) (y := ⟨x.s, n, x.n⟩) 1 (by omega) hx hg n rfl)
   have hzk := hide ((Kept.refl [V] w).set_ (b := V) (.inl (by simp)) (k * 3 + 1) (.int .i64 n))
   clear h hx hn hg
   go_enter Tryz.func175, Tryz.ntmps175
   go_wp2_with fail
   refine (has_any H.out _).mono ?_
   rintro e w1 ⟨rfl, rfl⟩
   rw [HY.out]
   go_wp2_with fail
   refine (isStamp_any n _).mono ?_
   rintro e w1 ⟨rfl, rfl⟩
   rw [HN.out]
   go_wp2
   go_end0
   exact ⟨rfl, hz.out, hzk.out⟩
  ·rw [if_neg hn]
   have HN := hide ((Bool.not_eq_true _).mp hn)
   clear h hx hn
   go_enter Tryz.func175, Tryz.ntmps175
   go_wp2_with fail
   refine (has_any H.out _).mono ?_
   rintro e w1 ⟨rfl, rfl⟩
   rw [HY.out]
   go_wp2_with fail
   refine (isStamp_any n _).mono ?_
   rintro e w1 ⟨rfl, rfl⟩
   rw [HN.out]
   go_wp2
   go_end0
   exact ⟨rfl, H.out, Kept.refl _ _⟩
 ·rw [upd_no hi, ite_self]
  have HY := hide (isSeg_no hi)
  clear h hi
  go_enter Tryz.func175, Tryz.ntmps175
  go_wp2_with fail
  refine (has_any H.out _).mono ?_
  rintro e w1 ⟨rfl, rfl⟩
  rw [HY.out]
  go_wp2
  go_end0
  exact ⟨rfl, H.out, Kept.refl _ _⟩

theorem shut_any (h : TAt w p V b s l r q rs) (i : Int) :
  Calls Tryz.prog 99 #[.pointer (some ⟨p, 0, none⟩), .int .i64 i] w fun e w' => e = .returned (.tuple #[]) ∧ TAt w' p V b s l r q (shutOf rs i) ∧ Kept [V] w w' := by
 have H := hide h
 have hb := h.bounds
 unfold shutOf
 rcases seg_cases rs i with ⟨k, x, rfl, hx⟩ | hi
 ·rw [upd_yes hx]
  unfold Rw.shut
  have HR := hide (rowAt_yes hx)
  have HX := hide hx
  have hlt : k < rs.length := (List.getElem?_eq_some_iff.1 hx).1
  by_cases h1 : x.s = 1
  ·rw [if_pos h1]
   have HE := hide h1
   have HG : Hid ((⟨2, x.t, x.n⟩ : Rw).good) := hide (by
    obtain ⟨_, h2, h3⟩ := h.at_good hx
    exact ⟨by simp, h2, h3⟩)
   clear h hx h1
   go_enter Tryz.func99, Tryz.ntmps99
   go_wp2_with fail
   refine (state_any H.out _).mono ?_
   rintro e w1 ⟨rfl, hk1⟩
   rw [HR.out, HE.out]
   have H1 := hide (H.out.keep hk1)
   have c1 := H1.out.c1
   obtain ⟨d0, d1, d2⟩ := H1.out.cells HX.out
   have f1 := H1.out.seg.frozen (k * 3)
   have hz := hide (H1.out.put (x := x) (y := ⟨2, x.t, x.n⟩) 0 (by omega) HX.out HG.out 2 rfl)
   have hzk := hide ((hk1.mono (S' := [V]) (by simp)).set_ (b := V) (.inl (by simp)) (k * 3) (.int .i64 2))
   clear hk1
   go_wp2
   go_end0
   exact ⟨rfl, hz.out, hzk.out⟩
  ·rw [if_neg h1, set_same_row hx]
   have HE : Hid ((x.s == 1) = false) := hide (beq_eq_false_iff_ne.2 h1)
   clear h hx h1
   go_enter Tryz.func99, Tryz.ntmps99
   go_wp2_with fail
   refine (state_any H.out _).mono ?_
   rintro e w1 ⟨rfl, hk1⟩
   rw [HR.out]
   have hE := HE.out
   have H1 := hide (H.out.keep hk1)
   have HK1 := hide hk1
   clear hk1
   go_wp2
   go_end0
   exact ⟨rfl, H1.out, HK1.out.mono (by simp)⟩
 ·rw [upd_no hi]
  have HR := hide (rowAt_no hi)
  clear h hi
  go_enter Tryz.func99, Tryz.ntmps99
  go_wp2_with fail
  refine (state_any H.out _).mono ?_
  rintro e w1 ⟨rfl, hk1⟩
  rw [HR.out]
  unfold Rw.zero
  have H1 := hide (H.out.keep hk1)
  have HK1 := hide hk1
  clear hk1
  go_wp2
  go_end0
  exact ⟨rfl, H1.out, HK1.out.mono (by simp)⟩

theorem grab_any (h : TAt w p V b s l r q rs) (i : Int) :
  Calls Tryz.prog 97 #[.pointer (some ⟨p, 0, none⟩), .int .i64 i] w fun e w' => e = .returned (.bool (grabs rs i)) ∧ TAt w' p V b s l r q (grabOf rs i) ∧ Kept [V] w w' := by
 have H := hide h
 have hb := h.bounds
 have c1 := h.c1
 unfold grabOf grabs
 rcases seg_cases rs i with ⟨k, x, rfl, hx⟩ | hi
 ·rw [upd_yes hx, rowAt_yes hx, isSeg_yes hx, Bool.true_and]
  unfold Rw.grab
  have HY := hide (isSeg_yes hx)
  have HX := hide hx
  have hlt : k < rs.length := (List.getElem?_eq_some_iff.1 hx).1
  obtain ⟨d0, d1, d2⟩ := h.cells hx
  by_cases h1 : x.s = 0
  ·rw [if_pos h1, decide_eq_true h1]
   rw [h1] at d0
   have hE : ((0 : Int) != 0) = false := rfl
   have G1 : (⟨1, x.t, x.n⟩ : Rw).good := by
    obtain ⟨_, h2, h3⟩ := h.at_good hx
    exact ⟨by simp, h2, h3⟩
   have HG : Hid ((⟨1, x.t, 0⟩ : Rw).good) := hide (by
    obtain ⟨_, h2, h3⟩ := h.at_good hx
    exact ⟨by simp, h2, by simp⟩)
   have h2 := (h.keep (Kept.refl [] w).drew).put (x := x) (y := ⟨1, x.t, x.n⟩) 0 (by omega) hx G1 1 rfl
   have hz : Hid (TAt ((w.drew.setCell ⟨V, k * 3, none⟩ (.int .i64 1)).setCell ⟨V, k * 3 + 2, none⟩ (.int .i64 0)) p V b s l r q (rs.set k ⟨1, x.t, 0⟩)) := hide (by
    have := h2.put (i := k) (x := ⟨1, x.t, x.n⟩) (y := ⟨1, x.t, 0⟩) 2 (by omega) (by rw [List.getElem?_set, if_pos rfl, if_pos hlt]) HG.out 0 rfl
    rwa [List.set_set] at this)
   have hzk := hide (((Kept.refl [V] w).drew.set_ (b := V) (.inl (by simp)) (k * 3) (.int .i64 1)).set_ (b := V) (.inl (by simp)) (k * 3 + 2) (.int .i64 0))
   have f0 := h.seg.frozen (k * 3)
   have f2 := h.seg.frozen (k * 3 + 2)
   have H2 := hide h2
   have HX2 : Hid ((rs.set k (⟨1, x.t, x.n⟩ : Rw))[k]? = some ⟨1, x.t, x.n⟩) := hide (by rw [List.getElem?_set, if_pos rfl, if_pos hlt])
   clear h hx h1 G1 h2
   go_enter Tryz.func97, Tryz.ntmps97
   go_wp2_with fail
   refine (has_any H.out _).mono ?_
   rintro e w1 ⟨rfl, rfl⟩
   rw [HY.out]
   go_wp2
   go_region
   all_goals
    go_wp2
    go_ret
    exact ⟨rfl, hz.out, hzk.out⟩
  ·rw [if_neg h1, set_same_row hx, decide_eq_false h1]
   have hE : (x.s != 0) = true := bne_iff_ne.2 h1
   clear h hx h1
   go_enter Tryz.func97, Tryz.ntmps97
   go_wp2_with fail
   refine (has_any H.out _).mono ?_
   rintro e w1 ⟨rfl, rfl⟩
   rw [HY.out]
   go_wp2
   go_ret
   exact ⟨rfl, H.out, Kept.refl _ _⟩
 ·rw [upd_no hi, isSeg_no hi]
  have HY := hide (isSeg_no hi)
  clear h hi
  go_enter Tryz.func97, Tryz.ntmps97
  go_wp2_with fail
  refine (has_any H.out _).mono ?_
  rintro e w1 ⟨rfl, rfl⟩
  rw [HY.out]
  go_wp2
  go_ret
  exact ⟨rfl, H.out, Kept.refl _ _⟩
end
end Go.Proofs.YtolbalafhfpjbaaGreat.us
