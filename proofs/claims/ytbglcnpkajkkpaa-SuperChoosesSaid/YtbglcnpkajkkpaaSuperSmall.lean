/- Package super: within, mayConfig, May; the reference's. -/
import Derived.Test.YtbglcnpkajkkpaaSuperMath
import Derived.Test.YtbglcnpkajkkpaaShapes
import Derived.Test.YtbglcnpkajkkpaaAlike
import Derived.StillTailTactics
namespace Go.Proofs.Ytbglcnpkajkkpaa.super
open Go.RowKit Go.Proofs.Ytbglcnpkajkkpaa.mem Go.Proofs.Ytbglcnpkajkkpaa.base

theorem between (n a b : Int) (w : World) :
    Calls Try.prog 33 #[.int .i64 n, .int .i64 a, .int .i64 b] w fun e w' => e = .returned (.bool (decide (a ≤ n) && decide (n ≤ b))) ∧ w = w' := by
  by_cases h : a ≤ n
  · go_enter Try.func33, Try.ntmps33
    go_wp2
    go_ret
    exact ⟨by simp [h], rfl⟩
  · go_enter Try.func33, Try.ntmps33
    go_wp2
    go_ret
    exact ⟨by rw [show decide (a ≤ n) = false from decide_eq_false (by omega)]; rfl, rfl⟩
theorem between_yes (n a b : Int) (w : World) (h : a ≤ n ∧ n ≤ b) :
    Calls Try.prog 33 #[.int .i64 n, .int .i64 a, .int .i64 b] w fun e w' => e = .returned (.bool true) ∧ w = w' :=
  (between n a b w).mono fun e w' ⟨he, hw⟩ => ⟨by rw [he]; simp [h.1, h.2], hw⟩
theorem between_no (n a b : Int) (w : World) (h : ¬ (a ≤ n ∧ n ≤ b)) :
    Calls Try.prog 33 #[.int .i64 n, .int .i64 a, .int .i64 b] w fun e w' => e = .returned (.bool false) ∧ w = w' :=
  (between n a b w).mono fun e w' ⟨he, hw⟩ => ⟨by rw [he]; congr 2; rw [← Bool.not_eq_true, Bool.and_eq_true, decide_eq_true_iff, decide_eq_true_iff]; omega, hw⟩

/-- A superblock's numbers, as a value. -/
def Su.val (S : Su) : Value := .agg #[.int .i64 S.k, .int .i64 S.s, .int .i64 S.l, .int .i64 S.i, .int .i64 S.m]
def cfgVal (k s l : Int) : Value := .agg #[.int .i64 k, .int .i64 s, .int .i64 l]
def cfgOf (k s l : Int) : Bool := decide (1 ≤ k ∧ k ≤ 64) && (decide (8 ≤ s ∧ s ≤ 32) && decide (24 ≤ l ∧ l ≤ 64))

theorem mayConfig_any (k s l : Int) (w : World) :
    Calls Try.prog 32 #[cfgVal k s l] w fun e w' => e = .returned (.bool (cfgOf k s l)) ∧ Kept [] w w' := by
  have hk := (Kept.refl [] w).alloc (.cells #[.int .i64 k, .int .i64 s, .int .i64 l] 23)
  unfold cfgVal
  by_cases h1 : 1 ≤ k ∧ k ≤ 64
  · skip
    by_cases h2 : 8 ≤ s ∧ s ≤ 32
    · skip
      by_cases h3 : 24 ≤ l ∧ l ≤ 64
      · skip
        go_enter Try.func32, Try.ntmps32
        go_wp2_with fail
        refine (between_yes k 1 64 _ h1).mono ?_
        rintro e w1 ⟨rfl, rfl⟩
        go_wp2_with fail
        refine (between_yes s 8 32 _ h2).mono ?_
        rintro e w2 ⟨rfl, rfl⟩
        go_wp2_with fail
        refine (between_yes l 24 64 _ h3).mono ?_
        rintro e w3 ⟨rfl, rfl⟩
        go_wp2
        go_ret
        exact ⟨by simp [cfgOf, h1, h2, h3], hk⟩
      · skip
        go_enter Try.func32, Try.ntmps32
        go_wp2_with fail
        refine (between_yes k 1 64 _ h1).mono ?_
        rintro e w1 ⟨rfl, rfl⟩
        go_wp2_with fail
        refine (between_yes s 8 32 _ h2).mono ?_
        rintro e w2 ⟨rfl, rfl⟩
        go_wp2_with fail
        refine (between_no l 24 64 _ h3).mono ?_
        rintro e w3 ⟨rfl, rfl⟩
        go_wp2
        go_ret
        exact ⟨by simp [cfgOf, h1, h2, h3], hk⟩
    · skip
      go_enter Try.func32, Try.ntmps32
      go_wp2_with fail
      refine (between_yes k 1 64 _ h1).mono ?_
      rintro e w1 ⟨rfl, rfl⟩
      go_wp2_with fail
      refine (between_no s 8 32 _ h2).mono ?_
      rintro e w2 ⟨rfl, rfl⟩
      go_wp2
      go_ret
      exact ⟨by simp [cfgOf, h1, h2], hk⟩
  · skip
    go_enter Try.func32, Try.ntmps32
    go_wp2_with fail
    refine (between_no k 1 64 _ h1).mono ?_
    rintro e w1 ⟨rfl, rfl⟩
    go_wp2
    go_ret
    exact ⟨by simp [cfgOf, h1], hk⟩

theorem may_any (S : Su) (w : World) :
    Calls Try.prog 12 #[S.val] w fun e w' => e = .returned (.bool S.may) ∧ Kept [] w w' := by
  have hb := Blk.new w 25 #[.int .i64 S.k, .int .i64 S.s, .int .i64 S.l, .int .i64 S.i, .int .i64 S.m]
  have hk := (Kept.refl [] w).alloc (.cells #[.int .i64 S.k, .int .i64 S.s, .int .i64 S.l, .int .i64 S.i, .int .i64 S.m] 25)
  have HB := hide hb
  have HK := hide hk
  clear hb hk
  have hm : S.may = (cfgOf S.k S.s S.l && (decide (0 ≤ S.i ∧ S.i ≤ 2147483647) && decide (1 ≤ S.m ∧ S.m ≤ 2147483647))) := rfl
  unfold Su.val
  by_cases h1 : cfgOf S.k S.s S.l = true
  · skip
    by_cases h2 : 0 ≤ S.i ∧ S.i ≤ 2147483647
    · skip
      by_cases h3 : 1 ≤ S.m ∧ S.m ≤ 2147483647
      · skip
        go_enter Try.func12, Try.ntmps12
        go_wp2_with fail
        refine (mayConfig_any S.k S.s S.l _).mono ?_
        rintro e w1 ⟨rfl, hk1⟩
        have HK1 := hide (HK.out.trans hk1 (by simp))
        have hb1 := hk1.blk HB.out (by simp)
        have f3 := hb1.cell 3
        have f4 := hb1.cell 4
        clear hk1 hb1
        rw [h1]
        go_wp2_with fail
        refine (between_yes S.i 0 2147483647 _ h2).mono ?_
        rintro e w2 ⟨rfl, rfl⟩
        go_wp2_with fail
        refine (between_yes S.m 1 2147483647 _ h3).mono ?_
        rintro e w3 ⟨rfl, rfl⟩
        go_wp2
        go_ret
        exact ⟨by simp [hm, h1, h2, h3], HK1.out⟩
      · skip
        go_enter Try.func12, Try.ntmps12
        go_wp2_with fail
        refine (mayConfig_any S.k S.s S.l _).mono ?_
        rintro e w1 ⟨rfl, hk1⟩
        have HK1 := hide (HK.out.trans hk1 (by simp))
        have hb1 := hk1.blk HB.out (by simp)
        have f3 := hb1.cell 3
        have f4 := hb1.cell 4
        clear hk1 hb1
        rw [h1]
        go_wp2_with fail
        refine (between_yes S.i 0 2147483647 _ h2).mono ?_
        rintro e w2 ⟨rfl, rfl⟩
        go_wp2_with fail
        refine (between_no S.m 1 2147483647 _ h3).mono ?_
        rintro e w3 ⟨rfl, rfl⟩
        go_wp2
        go_ret
        exact ⟨by simp [hm, h1, h2, h3], HK1.out⟩
    · skip
      go_enter Try.func12, Try.ntmps12
      go_wp2_with fail
      refine (mayConfig_any S.k S.s S.l _).mono ?_
      rintro e w1 ⟨rfl, hk1⟩
      have HK1 := hide (HK.out.trans hk1 (by simp))
      have hb1 := hk1.blk HB.out (by simp)
      have f3 := hb1.cell 3
      have f4 := hb1.cell 4
      clear hk1 hb1
      rw [h1]
      go_wp2_with fail
      refine (between_no S.i 0 2147483647 _ h2).mono ?_
      rintro e w2 ⟨rfl, rfl⟩
      go_wp2
      go_ret
      exact ⟨by simp [hm, h1, h2], HK1.out⟩
  · skip
    go_enter Try.func12, Try.ntmps12
    go_wp2_with fail
    refine (mayConfig_any S.k S.s S.l _).mono ?_
    rintro e w1 ⟨rfl, hk1⟩
    have HK1 := hide (HK.out.trans hk1 (by simp))
    have hb1 := hk1.blk HB.out (by simp)
    have f3 := hb1.cell 3
    have f4 := hb1.cell 4
    clear hk1 hb1
    rw [(Bool.not_eq_true _).mp h1]
    go_wp2
    go_ret
    exact ⟨by simp [hm, h1], HK1.out⟩

theorem rcfg_any (k s l : Int) (w : World) :
    Calls Try.prog 34 #[cfgVal k s l] w fun e w' => e = .returned (.bool (cfgOf k s l)) ∧ Kept [] w w' := by
  have hk := (Kept.refl [] w).alloc (.cells #[.int .i64 k, .int .i64 s, .int .i64 l] 23)
  unfold cfgVal
  by_cases h1 : 1 ≤ k ∧ k ≤ 64
  · skip
    by_cases h2 : 8 ≤ s ∧ s ≤ 32
    · skip
      by_cases h3 : 24 ≤ l ∧ l ≤ 64
      · skip
        go_enter Try.func34, Try.ntmps34
        go_wp2_with fail
        refine (base.within_yes k 1 64 _ h1).mono ?_
        rintro e w1 ⟨rfl, rfl⟩
        go_wp2_with fail
        refine (base.within_yes s 8 32 _ h2).mono ?_
        rintro e w2 ⟨rfl, rfl⟩
        go_wp2_with fail
        refine (base.within_yes l 24 64 _ h3).mono ?_
        rintro e w3 ⟨rfl, rfl⟩
        go_wp2
        go_ret
        exact ⟨by simp [cfgOf, h1, h2, h3], hk⟩
      · skip
        go_enter Try.func34, Try.ntmps34
        go_wp2_with fail
        refine (base.within_yes k 1 64 _ h1).mono ?_
        rintro e w1 ⟨rfl, rfl⟩
        go_wp2_with fail
        refine (base.within_yes s 8 32 _ h2).mono ?_
        rintro e w2 ⟨rfl, rfl⟩
        go_wp2_with fail
        refine (base.within_no l 24 64 _ h3).mono ?_
        rintro e w3 ⟨rfl, rfl⟩
        go_wp2
        go_ret
        exact ⟨by simp [cfgOf, h1, h2, h3], hk⟩
    · skip
      go_enter Try.func34, Try.ntmps34
      go_wp2_with fail
      refine (base.within_yes k 1 64 _ h1).mono ?_
      rintro e w1 ⟨rfl, rfl⟩
      go_wp2_with fail
      refine (base.within_no s 8 32 _ h2).mono ?_
      rintro e w2 ⟨rfl, rfl⟩
      go_wp2
      go_ret
      exact ⟨by simp [cfgOf, h1, h2], hk⟩
  · skip
    go_enter Try.func34, Try.ntmps34
    go_wp2_with fail
    refine (base.within_no k 1 64 _ h1).mono ?_
    rintro e w1 ⟨rfl, rfl⟩
    go_wp2
    go_ret
    exact ⟨by simp [cfgOf, h1], hk⟩

theorem rmay_any (S : Su) (w : World) :
    Calls Try.prog 13 #[S.val] w fun e w' => e = .returned (.bool S.may) ∧ Kept [] w w' := by
  have hb := Blk.new w 25 #[.int .i64 S.k, .int .i64 S.s, .int .i64 S.l, .int .i64 S.i, .int .i64 S.m]
  have hk := (Kept.refl [] w).alloc (.cells #[.int .i64 S.k, .int .i64 S.s, .int .i64 S.l, .int .i64 S.i, .int .i64 S.m] 25)
  have HB := hide hb
  have HK := hide hk
  clear hb hk
  have hm : S.may = (cfgOf S.k S.s S.l && (decide (0 ≤ S.i ∧ S.i ≤ 2147483647) && decide (1 ≤ S.m ∧ S.m ≤ 2147483647))) := rfl
  unfold Su.val
  by_cases h1 : cfgOf S.k S.s S.l = true
  · skip
    by_cases h2 : 0 ≤ S.i ∧ S.i ≤ 2147483647
    · skip
      by_cases h3 : 1 ≤ S.m ∧ S.m ≤ 2147483647
      · skip
        go_enter Try.func13, Try.ntmps13
        go_wp2_with fail
        refine (rcfg_any S.k S.s S.l _).mono ?_
        rintro e w1 ⟨rfl, hk1⟩
        have HK1 := hide (HK.out.trans hk1 (by simp))
        have hb1 := hk1.blk HB.out (by simp)
        have f3 := hb1.cell 3
        have f4 := hb1.cell 4
        clear hk1 hb1
        rw [h1]
        go_wp2_with fail
        refine (base.within_yes S.i 0 2147483647 _ h2).mono ?_
        rintro e w2 ⟨rfl, rfl⟩
        go_wp2_with fail
        refine (base.within_yes S.m 1 2147483647 _ h3).mono ?_
        rintro e w3 ⟨rfl, rfl⟩
        go_wp2
        go_ret
        exact ⟨by simp [hm, h1, h2, h3], HK1.out⟩
      · skip
        go_enter Try.func13, Try.ntmps13
        go_wp2_with fail
        refine (rcfg_any S.k S.s S.l _).mono ?_
        rintro e w1 ⟨rfl, hk1⟩
        have HK1 := hide (HK.out.trans hk1 (by simp))
        have hb1 := hk1.blk HB.out (by simp)
        have f3 := hb1.cell 3
        have f4 := hb1.cell 4
        clear hk1 hb1
        rw [h1]
        go_wp2_with fail
        refine (base.within_yes S.i 0 2147483647 _ h2).mono ?_
        rintro e w2 ⟨rfl, rfl⟩
        go_wp2_with fail
        refine (base.within_no S.m 1 2147483647 _ h3).mono ?_
        rintro e w3 ⟨rfl, rfl⟩
        go_wp2
        go_ret
        exact ⟨by simp [hm, h1, h2, h3], HK1.out⟩
    · skip
      go_enter Try.func13, Try.ntmps13
      go_wp2_with fail
      refine (rcfg_any S.k S.s S.l _).mono ?_
      rintro e w1 ⟨rfl, hk1⟩
      have HK1 := hide (HK.out.trans hk1 (by simp))
      have hb1 := hk1.blk HB.out (by simp)
      have f3 := hb1.cell 3
      have f4 := hb1.cell 4
      clear hk1 hb1
      rw [h1]
      go_wp2_with fail
      refine (base.within_no S.i 0 2147483647 _ h2).mono ?_
      rintro e w2 ⟨rfl, rfl⟩
      go_wp2
      go_ret
      exact ⟨by simp [hm, h1, h2], HK1.out⟩
  · skip
    go_enter Try.func13, Try.ntmps13
    go_wp2_with fail
    refine (rcfg_any S.k S.s S.l _).mono ?_
    rintro e w1 ⟨rfl, hk1⟩
    have HK1 := hide (HK.out.trans hk1 (by simp))
    have hb1 := hk1.blk HB.out (by simp)
    have f3 := hb1.cell 3
    have f4 := hb1.cell 4
    clear hk1 hb1
    rw [(Bool.not_eq_true _).mp h1]
    go_wp2
    go_ret
    exact ⟨by simp [hm, h1], HK1.out⟩
end Go.Proofs.Ytbglcnpkajkkpaa.super
