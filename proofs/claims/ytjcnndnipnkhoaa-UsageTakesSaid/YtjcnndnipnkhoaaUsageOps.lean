/- Package usage: add, Add, Touch, Seal, Grab. -/
import Derived.Test.YtjcnndnipnkhoaaUsageSmall
import Derived.Test.YtjcnndnipnkhoaaUsageWhere
namespace Go.Proofs.Ytjcnndnipnkhoaa.us
set_option linter.unusedSimpArgs false
open Go.RowKit Go.Proofs.Ytjcnndnipnkhoaa.mem Go.Proofs.Ytjcnndnipnkhoaa.base Go.Proofs.Ytjcnndnipnkhoaa.geom

/-- By more live, or less, as far as 0 and the largest number. -/
def least (x : Rw) (by_ : Int) : Int := if 2147483647 - x.n < by_ then 2147483647 - x.n else by_
def Rw.plus (by_ : Int) (x : Rw) : Rw := ⟨x.s, x.t, if x.n + least x by_ < 0 then 0 else x.n + least x by_⟩
theorem least_le (x : Rw) (by_ : Int) : least x by_ ≤ 2147483647 - x.n := by unfold least; split <;> omega
theorem Rw.plus_good {x : Rw} (h : x.good) (by_ : Int) : (x.plus by_).good := by
  obtain ⟨h1, h2, h3⟩ := h
  have := least_le x by_
  refine ⟨h1, h2, ?_⟩
  simp only [Rw.plus]
  split <;> omega
def addIn (s l r q a : Int) : Prop := 2 + 2 * r + 4 * q ≤ a ∧ a < 2 + 2 * r + 4 * q + s * l
instance (s l r q a : Int) : Decidable (addIn s l r q a) := by unfold addIn; infer_instance
def addOf (s l r q : Int) (rs : List Rw) (a by_ : Int) : List Rw := if addIn s l r q a then upd rs ((a - (2 + 2 * r + 4 * q)) / l) (Rw.plus by_) else rs
theorem add_seg {b s l r q a : Int} {rs : List Rw} (hok : Ok b s l) (hl : (rs.length : Int) = s) (h : addIn s l r q a) : ∃ k : Nat, ∃ x, (a - (2 + 2 * r + 4 * q)) / l = k ∧ rs[k]? = some x := by
  obtain ⟨_, h8, h24⟩ := hok
  obtain ⟨h1, h2⟩ := h
  have q0 : 0 ≤ (a - (2 + 2 * r + 4 * q)) / l := Int.ediv_nonneg (by omega) (by omega)
  have q1 : (a - (2 + 2 * r + 4 * q)) / l < s := Int.ediv_lt_of_lt_mul (by omega) (by omega)
  exact ⟨((a - (2 + 2 * r + 4 * q)) / l).toNat, _, by omega, List.getElem?_eq_getElem (by omega)⟩

section
variable {w : World} {p V : Nat} {b s l r q : Int} {rs : List Rw}

set_option maxRecDepth 100000 in
theorem plus_any (h : TAt w p V b s l r q rs) (i : Nat) (x : Rw) (hx : rs[i]? = some x) (by_ : Int) (h0 : -9223372036854775808 ≤ by_) :
    Calls Try.prog 49 #[.pointer (some ⟨V, i * 3, none⟩), .int .i64 by_] w fun e w' => e = .returned (.tuple #[]) ∧ TAt w' p V b s l r q (rs.set i (x.plus by_)) ∧ Kept [V] w w' := by
  obtain ⟨d0, d1, d2⟩ := h.cells hx
  have g := h.at_good hx
  obtain ⟨g1, g2, g3⟩ := g
  have f2 := h.seg.frozen (i * 3 + 2)
  have hz := hide ((h.keep (Kept.refl [] w).drew).put (x := x) (y := x.plus by_) 2 (by omega) hx (Rw.plus_good (h.at_good hx) by_) _ rfl)
  have hzk := hide (((Kept.refl [V] w).drew).set_ (b := V) (.inl (by simp)) (i * 3 + 2) (.int .i64 (x.plus by_).n))
  have w1 : IntKind.i64.wrap (2147483647 - x.n) = 2147483647 - x.n := IntWalk.i64_in _ (by omega)
  have HM : Hid ((if 2147483647 - x.n < by_ then 2147483647 - x.n else by_) = least x by_) := hide rfl
  have hle := least_le x by_
  have hle0 : -9223372036854775808 ≤ least x by_ := by unfold least; split <;> omega
  have HW : Hid (IntKind.i64.wrap (x.n + least x by_) = x.n + least x by_) := hide (IntWalk.i64_in _ (by omega))
  have HP : Hid ((if x.n + least x by_ < 0 then 0 else x.n + least x by_) = (x.plus by_).n) := hide rfl
  clear h hx hle hle0
  go_enter Try.func49, Try.ntmps49
  go_wp2
  go_still_tail 16, (by kernel_rfl)
  change wpList _ _ _ _ _ (World.drew w)
  rw [HM.out, HW.out, HP.out]
  go_wp2
  go_end0
  exact ⟨rfl, hz.out, hzk.out⟩

set_option maxRecDepth 100000 in
theorem add_any (h : TAt w p V b s l r q rs) (a by_ : Int) (h0 : -9223372036854775808 ≤ by_) :
    Calls Try.prog 13 #[.pointer (some ⟨p, 0, none⟩), .int .i64 a, .int .i64 by_] w fun e w' => e = .returned (.bool (decide (addIn s l r q a))) ∧ TAt w' p V b s l r q (addOf s l r q rs a by_) ∧ Kept [V] w w' := by
  have H := hide h
  unfold addOf
  by_cases ha : addIn s l r q a
  · obtain ⟨k, x, hk, hx⟩ := add_seg h.ok h.len ha
    rw [if_pos ha, hk, upd_yes hx, decide_eq_true ha]
    have HW : Hid (whereOf s l r q a = .tuple #[.int .i64 k, .int .i64 ((a - (2 + 2 * r + 4 * q)) % l), .bool true]) := hide (by unfold whereOf; unfold addIn at ha; rw [if_pos ha, hk])
    have HX := hide hx
    have hlt : k < rs.length := (List.getElem?_eq_some_iff.1 hx).1
    have hb := h.bounds
    clear h ha hk hx
    go_enter Try.func13, Try.ntmps13
    go_wp2_with fail
    refine (where_gc p b s l r q a _ H.out.gc).mono ?_
    rintro e w1 ⟨rfl, hk1⟩
    rw [HW.out]
    have H1 := hide (H.out.keep hk1)
    have HK1 := hide hk1
    have c1 := H1.out.c1
    clear hk1
    go_wp2_with fail
    refine (plus_any H1.out k x HX.out by_ h0).mono ?_
    rintro e w2 ⟨rfl, h2, hk2⟩
    have H2 := hide h2
    have HK2 := hide hk2
    clear h2 hk2
    go_wp2
    go_ret
    exact ⟨rfl, H2.out, (HK1.out.mono (by simp)).trans HK2.out (by simp)⟩
  · rw [if_neg ha, decide_eq_false ha]
    have HW : Hid (whereOf s l r q a = .tuple #[.int .i64 0, .int .i64 0, .bool false]) := hide (by unfold whereOf; unfold addIn at ha; rw [if_neg ha])
    clear h ha
    go_enter Try.func13, Try.ntmps13
    go_wp2_with fail
    refine (where_gc p b s l r q a _ H.out.gc).mono ?_
    rintro e w1 ⟨rfl, hk1⟩
    rw [HW.out]
    have H1 := hide (H.out.keep hk1)
    have HK1 := hide hk1
    clear hk1
    go_wp2
    go_ret
    exact ⟨rfl, H1.out, HK1.out.mono (by simp)⟩

set_option maxRecDepth 100000 in
theorem touch_any (h : TAt w p V b s l r q rs) (i n : Int) :
    Calls Try.prog 15 #[.pointer (some ⟨p, 0, none⟩), .int .i64 i, .int .i64 n] w fun e w' => e = .returned (.tuple #[]) ∧ TAt w' p V b s l r q (touchOf rs i n) ∧ Kept [V] w w' := by
  have H := hide h
  have hb := h.bounds
  unfold touchOf
  rcases seg_cases rs i with ⟨k, x, rfl, hx⟩ | hi
  · rw [upd_yes hx]
    have HY := hide (isSeg_yes hx)
    by_cases hn : isNum n = true
    · rw [if_pos hn]
      have HN := hide hn
      have hlt : k < rs.length := (List.getElem?_eq_some_iff.1 hx).1
      have c1 := h.c1
      obtain ⟨d0, d1, d2⟩ := h.cells hx
      have f1 := h.seg.frozen (k * 3 + 1)
      have hg : (⟨x.s, n, x.n⟩ : Rw).good := by
        obtain ⟨h1, h2, h3⟩ := h.at_good hx
        refine ⟨h1, ?_, h3⟩
        simp only [isNum, Bool.and_eq_true, decide_eq_true_eq] at hn
        exact hn
      have hz := hide (h.put (x := x) (y := ⟨x.s, n, x.n⟩) 1 (by omega) hx hg n rfl)
      have hzk := hide ((Kept.refl [V] w).set_ (b := V) (.inl (by simp)) (k * 3 + 1) (.int .i64 n))
      clear h hx hn hg
      go_enter Try.func15, Try.ntmps15
      go_wp2_with fail
      refine (has_any H.out _).mono ?_
      rintro e w1 ⟨rfl, rfl⟩
      rw [HY.out]
      go_wp2_with fail
      refine (isStamp_any n _).mono ?_
      rintro e w1 ⟨rfl, rfl⟩
      rw [HN.out]
      go_wp2
      go_end0
      exact ⟨rfl, hz.out, hzk.out⟩
    · rw [if_neg hn]
      have HN := hide ((Bool.not_eq_true _).mp hn)
      clear h hx hn
      go_enter Try.func15, Try.ntmps15
      go_wp2_with fail
      refine (has_any H.out _).mono ?_
      rintro e w1 ⟨rfl, rfl⟩
      rw [HY.out]
      go_wp2_with fail
      refine (isStamp_any n _).mono ?_
      rintro e w1 ⟨rfl, rfl⟩
      rw [HN.out]
      go_wp2
      go_end0
      exact ⟨rfl, H.out, Kept.refl _ _⟩
  · rw [upd_no hi, ite_self]
    have HY := hide (isSeg_no hi)
    clear h hi
    go_enter Try.func15, Try.ntmps15
    go_wp2_with fail
    refine (has_any H.out _).mono ?_
    rintro e w1 ⟨rfl, rfl⟩
    rw [HY.out]
    go_wp2
    go_end0
    exact ⟨rfl, H.out, Kept.refl _ _⟩

set_option maxRecDepth 100000 in
theorem shut_any (h : TAt w p V b s l r q rs) (i : Int) :
    Calls Try.prog 21 #[.pointer (some ⟨p, 0, none⟩), .int .i64 i] w fun e w' => e = .returned (.tuple #[]) ∧ TAt w' p V b s l r q (shutOf rs i) ∧ Kept [V] w w' := by
  have H := hide h
  have hb := h.bounds
  unfold shutOf
  rcases seg_cases rs i with ⟨k, x, rfl, hx⟩ | hi
  · rw [upd_yes hx]
    unfold Rw.shut
    have HR := hide (rowAt_yes hx)
    have HX := hide hx
    have hlt : k < rs.length := (List.getElem?_eq_some_iff.1 hx).1
    by_cases h1 : x.s = 1
    · rw [if_pos h1]
      have HE := hide h1
      have HG : Hid ((⟨2, x.t, x.n⟩ : Rw).good) := hide (by
        obtain ⟨_, h2, h3⟩ := h.at_good hx
        exact ⟨by simp, h2, h3⟩)
      clear h hx h1
      go_enter Try.func21, Try.ntmps21
      go_wp2_with fail
      refine (state_any H.out _).mono ?_
      rintro e w1 ⟨rfl, hk1⟩
      rw [HR.out, HE.out]
      have H1 := hide (H.out.keep hk1)
      have c1 := H1.out.c1
      obtain ⟨d0, d1, d2⟩ := H1.out.cells HX.out
      have f1 := H1.out.seg.frozen (k * 3)
      have hz := hide (H1.out.put (x := x) (y := ⟨2, x.t, x.n⟩) 0 (by omega) HX.out HG.out 2 rfl)
      have hzk := hide ((hk1.mono (S' := [V]) (by simp)).set_ (b := V) (.inl (by simp)) (k * 3) (.int .i64 2))
      clear hk1
      go_wp2
      go_end0
      exact ⟨rfl, hz.out, hzk.out⟩
    · rw [if_neg h1, set_same_row hx]
      have HE : Hid ((x.s == 1) = false) := hide (beq_eq_false_iff_ne.2 h1)
      clear h hx h1
      go_enter Try.func21, Try.ntmps21
      go_wp2_with fail
      refine (state_any H.out _).mono ?_
      rintro e w1 ⟨rfl, hk1⟩
      rw [HR.out]
      have hE := HE.out
      have H1 := hide (H.out.keep hk1)
      have HK1 := hide hk1
      clear hk1
      go_wp2
      go_end0
      exact ⟨rfl, H1.out, HK1.out.mono (by simp)⟩
  · rw [upd_no hi]
    have HR := hide (rowAt_no hi)
    clear h hi
    go_enter Try.func21, Try.ntmps21
    go_wp2_with fail
    refine (state_any H.out _).mono ?_
    rintro e w1 ⟨rfl, hk1⟩
    rw [HR.out]
    unfold Rw.zero
    have H1 := hide (H.out.keep hk1)
    have HK1 := hide hk1
    clear hk1
    go_wp2
    go_end0
    exact ⟨rfl, H1.out, HK1.out.mono (by simp)⟩

set_option maxRecDepth 100000 in
theorem grab_any (h : TAt w p V b s l r q rs) (i : Int) :
    Calls Try.prog 20 #[.pointer (some ⟨p, 0, none⟩), .int .i64 i] w fun e w' => e = .returned (.bool (grabs rs i)) ∧ TAt w' p V b s l r q (grabOf rs i) ∧ Kept [V] w w' := by
  have H := hide h
  have hb := h.bounds
  have c1 := h.c1
  unfold grabOf grabs
  rcases seg_cases rs i with ⟨k, x, rfl, hx⟩ | hi
  · rw [upd_yes hx, rowAt_yes hx, isSeg_yes hx, Bool.true_and]
    unfold Rw.grab
    have HY := hide (isSeg_yes hx)
    have HX := hide hx
    have hlt : k < rs.length := (List.getElem?_eq_some_iff.1 hx).1
    obtain ⟨d0, d1, d2⟩ := h.cells hx
    by_cases h1 : x.s = 0
    · rw [if_pos h1, decide_eq_true h1]
      rw [h1] at d0
      have hE : ((0 : Int) != 0) = false := rfl
      have G1 : (⟨1, x.t, x.n⟩ : Rw).good := by
        obtain ⟨_, h2, h3⟩ := h.at_good hx
        exact ⟨by simp, h2, h3⟩
      have HG : Hid ((⟨1, x.t, 0⟩ : Rw).good) := hide (by
        obtain ⟨_, h2, h3⟩ := h.at_good hx
        exact ⟨by simp, h2, by simp⟩)
      have h2 := (h.keep (Kept.refl [] w).drew).put (x := x) (y := ⟨1, x.t, x.n⟩) 0 (by omega) hx G1 1 rfl
      have hz : Hid (TAt ((w.drew.setCell ⟨V, k * 3, none⟩ (.int .i64 1)).setCell ⟨V, k * 3 + 2, none⟩ (.int .i64 0)) p V b s l r q (rs.set k ⟨1, x.t, 0⟩)) := hide (by
        have := h2.put (i := k) (x := ⟨1, x.t, x.n⟩) (y := ⟨1, x.t, 0⟩) 2 (by omega) (by rw [List.getElem?_set, if_pos rfl, if_pos hlt]) HG.out 0 rfl
        rwa [List.set_set] at this)
      have hzk := hide (((Kept.refl [V] w).drew.set_ (b := V) (.inl (by simp)) (k * 3) (.int .i64 1)).set_ (b := V) (.inl (by simp)) (k * 3 + 2) (.int .i64 0))
      have f0 := h.seg.frozen (k * 3)
      have f2 := h.seg.frozen (k * 3 + 2)
      have H2 := hide h2
      have HX2 : Hid ((rs.set k (⟨1, x.t, x.n⟩ : Rw))[k]? = some ⟨1, x.t, x.n⟩) := hide (by rw [List.getElem?_set, if_pos rfl, if_pos hlt])
      clear h hx h1 G1 h2
      go_enter Try.func20, Try.ntmps20
      go_wp2_with fail
      refine (has_any H.out _).mono ?_
      rintro e w1 ⟨rfl, rfl⟩
      rw [HY.out]
      go_wp2
      go_region
      all_goals
        go_wp2
        go_ret
        exact ⟨rfl, hz.out, hzk.out⟩
    · rw [if_neg h1, set_same_row hx, decide_eq_false h1]
      have hE : (x.s != 0) = true := bne_iff_ne.2 h1
      clear h hx h1
      go_enter Try.func20, Try.ntmps20
      go_wp2_with fail
      refine (has_any H.out _).mono ?_
      rintro e w1 ⟨rfl, rfl⟩
      rw [HY.out]
      go_wp2
      go_ret
      exact ⟨rfl, H.out, Kept.refl _ _⟩
  · rw [upd_no hi, isSeg_no hi]
    have HY := hide (isSeg_no hi)
    clear h hi
    go_enter Try.func20, Try.ntmps20
    go_wp2_with fail
    refine (has_any H.out _).mono ?_
    rintro e w1 ⟨rfl, rfl⟩
    rw [HY.out]
    go_wp2
    go_ret
    exact ⟨rfl, H.out, Kept.refl _ _⟩
end
end Go.Proofs.Ytjcnndnipnkhoaa.us
