/- Package head: within, May, get; the reference's. -/
import Derived.Test.YtlhomheolcmocaaHeadMath
import Derived.Test.YtlhomheolcmocaaAlike
namespace Go.Proofs.Ytlhomheolcmocaa.hd
open Go.RowKit Go.Proofs.Ytlhomheolcmocaa.mem Go.Proofs.Ytlhomheolcmocaa.base

theorem between (n a b : Int) (w : World) :
    Calls Try.prog 35 #[.int .i64 n, .int .i64 a, .int .i64 b] w fun e w' => e = .returned (.bool (decide (a ≤ n) && decide (n ≤ b))) ∧ w = w' := by
  by_cases h : a ≤ n
  · go_enter Try.func35, Try.ntmps35
    go_wp2
    go_ret
    exact ⟨by simp [h], rfl⟩
  · go_enter Try.func35, Try.ntmps35
    go_wp2
    go_ret
    exact ⟨by rw [show decide (a ≤ n) = false from decide_eq_false (by omega)]; rfl, rfl⟩
theorem between_yes (n a b : Int) (w : World) (h : a ≤ n ∧ n ≤ b) :
    Calls Try.prog 35 #[.int .i64 n, .int .i64 a, .int .i64 b] w fun e w' => e = .returned (.bool true) ∧ w = w' :=
  (between n a b w).mono fun e w' ⟨he, hw⟩ => ⟨by rw [he]; simp [h.1, h.2], hw⟩
theorem between_no (n a b : Int) (w : World) (h : ¬ (a ≤ n ∧ n ≤ b)) :
    Calls Try.prog 35 #[.int .i64 n, .int .i64 a, .int .i64 b] w fun e w' => e = .returned (.bool false) ∧ w = w' :=
  (between n a b w).mono fun e w' ⟨he, hw⟩ => ⟨by rw [he]; congr 2; rw [← Bool.not_eq_true, Bool.and_eq_true, decide_eq_true_iff, decide_eq_true_iff]; omega, hw⟩

/-- A head's numbers, as a value, as cells. -/
def Hd.val (H : Hd) : Value := .agg #[.int .i64 H.g, .int .i64 H.m, .int .i64 H.l, .int .i64 H.v]
def Hd.cells (H : Hd) : Array Value := #[.int .i64 H.g, .int .i64 H.m, .int .i64 H.l, .int .i64 H.v]
theorem Hd.cell_at {w : World} {g : Nat} {t : TypeId} {H : Hd} (h : Blk w g t H.cells) : w.cell? ⟨g, 0, none⟩ = some (.int .i64 H.g) ∧ w.cell? ⟨g, 1, none⟩ = some (.int .i64 H.m) ∧ w.cell? ⟨g, 2, none⟩ = some (.int .i64 H.l) ∧ w.cell? ⟨g, 3, none⟩ = some (.int .i64 H.v) :=
  ⟨h.cell 0, h.cell 1, h.cell 2, h.cell 3⟩
/-- Its four cells stored, one by one. -/
def put4 (w : World) (g : Nat) (a b c d : Int) : World := (((w.setCell ⟨g, 0, none⟩ (.int .i64 a)).setCell ⟨g, 1, none⟩ (.int .i64 b)).setCell ⟨g, 2, none⟩ (.int .i64 c)).setCell ⟨g, 3, none⟩ (.int .i64 d)
theorem Hd.put_at {w : World} {g : Nat} {t : TypeId} {H : Hd} (a b c d : Int) (h : Blk w g t H.cells) : Blk (put4 w g a b c d) g t (Hd.cells ⟨a, b, c, d⟩) :=
  (((h.set_ 0 (.int .i64 a)).set_ 1 (.int .i64 b)).set_ 2 (.int .i64 c)).set_ 3 (.int .i64 d)
theorem Hd.put_kept {v w : World} {g : Nat} {S : List Nat} (a b c d : Int) (h : Kept S v w) (hg : g ∈ S ∨ v.heap.size ≤ g) : Kept S v (put4 w g a b c d) :=
  (((h.set_ hg 0 (.int .i64 a)).set_ hg 1 (.int .i64 b)).set_ hg 2 (.int .i64 c)).set_ hg 3 (.int .i64 d)
theorem put4_eq (w : World) (g : Nat) (a b c d : Int) : (((w.setCell ⟨g, 0, none⟩ (.int .i64 a)).setCell ⟨g, 1, none⟩ (.int .i64 b)).setCell ⟨g, 2, none⟩ (.int .i64 c)).setCell ⟨g, 3, none⟩ (.int .i64 d) = put4 w g a b c d := rfl

theorem may_any (H : Hd) (w : World) :
    Calls Try.prog 11 #[H.val] w fun e w' => e = .returned (.bool H.may) ∧ Kept [] w w' := by
  have hk := (Kept.refl [] w).alloc (.cells H.cells 23)
  unfold Hd.val
  by_cases h0 : 0 ≤ H.g ∧ H.g ≤ 31
  · skip
    by_cases h1 : 1 ≤ H.m ∧ H.m ≤ 2147483647
    · skip
      by_cases h2 : 1 ≤ H.l ∧ H.l ≤ 2147483647
      · skip
        by_cases h3 : 0 ≤ H.v ∧ H.v ≤ 4294967295
        · skip
          go_enter Try.func11, Try.ntmps11
          go_wp2_with fail
          refine (between_yes H.g 0 31 _ h0).mono ?_
          rintro e w1 ⟨rfl, rfl⟩
          go_wp2_with fail
          refine (between_yes H.m 1 2147483647 _ h1).mono ?_
          rintro e w2 ⟨rfl, rfl⟩
          go_wp2_with fail
          refine (between_yes H.l 1 2147483647 _ h2).mono ?_
          rintro e w3 ⟨rfl, rfl⟩
          go_wp2_with fail
          refine (between_yes H.v 0 4294967295 _ h3).mono ?_
          rintro e w4 ⟨rfl, rfl⟩
          go_wp2
          go_ret
          exact ⟨by simp [Hd.may, h0, h1, h2, h3], hk⟩
        · skip
          go_enter Try.func11, Try.ntmps11
          go_wp2_with fail
          refine (between_yes H.g 0 31 _ h0).mono ?_
          rintro e w1 ⟨rfl, rfl⟩
          go_wp2_with fail
          refine (between_yes H.m 1 2147483647 _ h1).mono ?_
          rintro e w2 ⟨rfl, rfl⟩
          go_wp2_with fail
          refine (between_yes H.l 1 2147483647 _ h2).mono ?_
          rintro e w3 ⟨rfl, rfl⟩
          go_wp2_with fail
          refine (between_no H.v 0 4294967295 _ h3).mono ?_
          rintro e w4 ⟨rfl, rfl⟩
          go_wp2
          go_ret
          exact ⟨by simp [Hd.may, h0, h1, h2, h3], hk⟩
      · skip
        go_enter Try.func11, Try.ntmps11
        go_wp2_with fail
        refine (between_yes H.g 0 31 _ h0).mono ?_
        rintro e w1 ⟨rfl, rfl⟩
        go_wp2_with fail
        refine (between_yes H.m 1 2147483647 _ h1).mono ?_
        rintro e w2 ⟨rfl, rfl⟩
        go_wp2_with fail
        refine (between_no H.l 1 2147483647 _ h2).mono ?_
        rintro e w3 ⟨rfl, rfl⟩
        go_wp2
        go_ret
        exact ⟨by simp [Hd.may, h0, h1, h2], hk⟩
    · skip
      go_enter Try.func11, Try.ntmps11
      go_wp2_with fail
      refine (between_yes H.g 0 31 _ h0).mono ?_
      rintro e w1 ⟨rfl, rfl⟩
      go_wp2_with fail
      refine (between_no H.m 1 2147483647 _ h1).mono ?_
      rintro e w2 ⟨rfl, rfl⟩
      go_wp2
      go_ret
      exact ⟨by simp [Hd.may, h0, h1], hk⟩
  · skip
    go_enter Try.func11, Try.ntmps11
    go_wp2_with fail
    refine (between_no H.g 0 31 _ h0).mono ?_
    rintro e w1 ⟨rfl, rfl⟩
    go_wp2
    go_ret
    exact ⟨by simp [Hd.may, h0], hk⟩

theorem rmay_any (H : Hd) (w : World) :
    Calls Try.prog 12 #[H.val] w fun e w' => e = .returned (.bool H.may) ∧ Kept [] w w' := by
  have hk := (Kept.refl [] w).alloc (.cells H.cells 23)
  unfold Hd.val
  by_cases h0 : 0 ≤ H.g ∧ H.g ≤ 31
  · skip
    by_cases h1 : 1 ≤ H.m ∧ H.m ≤ 2147483647
    · skip
      by_cases h2 : 1 ≤ H.l ∧ H.l ≤ 2147483647
      · skip
        by_cases h3 : 0 ≤ H.v ∧ H.v ≤ 4294967295
        · skip
          go_enter Try.func12, Try.ntmps12
          go_wp2_with fail
          refine (base.within_yes H.g 0 31 _ h0).mono ?_
          rintro e w1 ⟨rfl, rfl⟩
          go_wp2_with fail
          refine (base.within_yes H.m 1 2147483647 _ h1).mono ?_
          rintro e w2 ⟨rfl, rfl⟩
          go_wp2_with fail
          refine (base.within_yes H.l 1 2147483647 _ h2).mono ?_
          rintro e w3 ⟨rfl, rfl⟩
          go_wp2_with fail
          refine (base.within_yes H.v 0 4294967295 _ h3).mono ?_
          rintro e w4 ⟨rfl, rfl⟩
          go_wp2
          go_ret
          exact ⟨by simp [Hd.may, h0, h1, h2, h3], hk⟩
        · skip
          go_enter Try.func12, Try.ntmps12
          go_wp2_with fail
          refine (base.within_yes H.g 0 31 _ h0).mono ?_
          rintro e w1 ⟨rfl, rfl⟩
          go_wp2_with fail
          refine (base.within_yes H.m 1 2147483647 _ h1).mono ?_
          rintro e w2 ⟨rfl, rfl⟩
          go_wp2_with fail
          refine (base.within_yes H.l 1 2147483647 _ h2).mono ?_
          rintro e w3 ⟨rfl, rfl⟩
          go_wp2_with fail
          refine (base.within_no H.v 0 4294967295 _ h3).mono ?_
          rintro e w4 ⟨rfl, rfl⟩
          go_wp2
          go_ret
          exact ⟨by simp [Hd.may, h0, h1, h2, h3], hk⟩
      · skip
        go_enter Try.func12, Try.ntmps12
        go_wp2_with fail
        refine (base.within_yes H.g 0 31 _ h0).mono ?_
        rintro e w1 ⟨rfl, rfl⟩
        go_wp2_with fail
        refine (base.within_yes H.m 1 2147483647 _ h1).mono ?_
        rintro e w2 ⟨rfl, rfl⟩
        go_wp2_with fail
        refine (base.within_no H.l 1 2147483647 _ h2).mono ?_
        rintro e w3 ⟨rfl, rfl⟩
        go_wp2
        go_ret
        exact ⟨by simp [Hd.may, h0, h1, h2], hk⟩
    · skip
      go_enter Try.func12, Try.ntmps12
      go_wp2_with fail
      refine (base.within_yes H.g 0 31 _ h0).mono ?_
      rintro e w1 ⟨rfl, rfl⟩
      go_wp2_with fail
      refine (base.within_no H.m 1 2147483647 _ h1).mono ?_
      rintro e w2 ⟨rfl, rfl⟩
      go_wp2
      go_ret
      exact ⟨by simp [Hd.may, h0, h1], hk⟩
  · skip
    go_enter Try.func12, Try.ntmps12
    go_wp2_with fail
    refine (base.within_no H.g 0 31 _ h0).mono ?_
    rintro e w1 ⟨rfl, rfl⟩
    go_wp2
    go_ret
    exact ⟨by simp [Hd.may, h0], hk⟩
end Go.Proofs.Ytlhomheolcmocaa.hd
