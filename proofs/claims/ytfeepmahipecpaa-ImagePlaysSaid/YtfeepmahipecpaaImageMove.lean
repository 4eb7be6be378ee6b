/- Package image: Move. -/
import Derived.Test.YtfeepmahipecpaaImageOps
namespace Go.Proofs.Ytfeepmahipecpaa.im
set_option linter.unusedSimpArgs false
set_option linter.unusedVariables false
open Go.RowKit Go.Proofs.Ytfeepmahipecpaa.mem Go.Proofs.Ytfeepmahipecpaa.base Go.Proofs.Ytfeepmahipecpaa.pd Go.Proofs.Ytfeepmahipecpaa.owns
attribute [local go_sem] Oper.semAt_some

/-- Move: in what stands, if it is there, else in what is pending. -/
def Im.move (M : Im) (b : Nat) (old a : Int) : Im × Bool := if M.b.l.getD b 0 = old then (⟨M.b.swap b a, M.o⟩, true) else if M.o.l.getD b 0 = old then (⟨M.b, M.o.swap b a⟩, true) else (M, false)
section
variable {w : World} {X : Ib} {M : Im}
theorem set_tab {p V D : Nat} {t : Tb} (h : ImT w p V D t) (b : Nat) (hb : b < t.l.length) (a : Int) :
    Calls Try.prog 46 #[.pointer (some ⟨p, 0, none⟩), .int .i64 b, .int .i64 a] w fun e w' => e = .returned (.bool true) ∧ ImT w' p V D (t.swap b a) ∧ Kept [V, D] w w' := by
  have hx := getD_of hb
  exact set_int_at h b b rfl _ a hx _ rfl
theorem move_bad (h : IAt w X M) (b old a : Int) (hn : ¬ (1 ≤ old ∧ 1 ≤ a ∧ a < 4096)) :
    Calls Try.prog 20 #[.pointer (some ⟨X.m, 0, none⟩), .int .i64 b, .int .i64 old, .int .i64 a] w fun e w' => e = .returned (.bool false) ∧ w = w' := by
  by_cases ho : 1 ≤ old
  · have hd : decide (old < 1) = false := decide_eq_false (by omega)
    have HS : Hid (decide (1 ≤ a ∧ a < 4096) = false) := hide (decide_eq_false (fun k => hn ⟨ho, k⟩))
    clear h hn
    go_enter Try.func20, Try.ntmps20
    go_wp2_with fail
    refine (isSector_any a _).mono ?_
    rintro e w' ⟨rfl, rfl⟩
    rw [HS.out]
    go_wp2
    go_ret
    exact ⟨rfl, rfl⟩
  · have hd : decide (old < 1) = true := decide_eq_true (by omega)
    clear h hn
    go_enter Try.func20, Try.ntmps20
    go_wp2
    go_ret
    exact ⟨rfl, rfl⟩
set_option maxRecDepth 100000 in
set_option maxHeartbeats 2000000 in
/-- The loop, for what the two tables have there. -/
theorem move_any (h : IAt w X M) (b old a : Int) (ho : 1 ≤ old) (h1 : 1 ≤ a) (h2 : a < 4096) (x y : Int) (R : Bool) (M' : Im)
    (hx : ∀ W, IAt W X M → Calls Try.prog 45 #[.pointer (some ⟨X.p, 0, none⟩), .int .i64 b] W fun e w' => (∃ k, e = .returned (.tuple #[.int .i64 x, .bool k])) ∧ W = w')
    (hy : ∀ W, IAt W X M → Calls Try.prog 45 #[.pointer (some ⟨X.q, 0, none⟩), .int .i64 b] W fun e w' => (∃ k, e = .returned (.tuple #[.int .i64 y, .bool k])) ∧ W = w')
    (hsx : x = old → ∀ W, IAt W X M → Calls Try.prog 46 #[.pointer (some ⟨X.p, 0, none⟩), .int .i64 b, .int .i64 a] W fun e w' => e = .returned (.bool R) ∧ IAt w' X M' ∧ Kept [X.V, X.D, X.U, X.E] W w')
    (hsy : x ≠ old → y = old → ∀ W, IAt W X M → Calls Try.prog 46 #[.pointer (some ⟨X.q, 0, none⟩), .int .i64 b, .int .i64 a] W fun e w' => e = .returned (.bool R) ∧ IAt w' X M' ∧ Kept [X.V, X.D, X.U, X.E] W w')
    (hno : x ≠ old → y ≠ old → R = false ∧ M' = M) :
    Calls Try.prog 20 #[.pointer (some ⟨X.m, 0, none⟩), .int .i64 b, .int .i64 old, .int .i64 a] w fun e w' => e = .returned (.bool R) ∧ IAt w' X M' ∧ Kept [X.V, X.D, X.U, X.E] w w' := by
  have H := hide h
  have HX := hide hx
  have HY := hide hy
  have HSX := hide hsx
  have HSY := hide hsy
  have HNO := hide hno
  have HS : Hid (decide (1 ≤ a ∧ a < 4096) = true) := hide (decide_eq_true ⟨h1, h2⟩)
  have hd : decide (old < 1) = false := decide_eq_false (by omega)
  clear h hx hy hsx hsy hno h1 h2 ho
  go_enter Try.func20, Try.ntmps20
  go_wp2_with fail
  refine (isSector_any a _).mono ?_
  rintro e w' ⟨rfl, rfl⟩
  rw [HS.out]
  go_wp2
  have B0 := hide (Blk.new w 4 #[.bool false, .bool true])
  have k0 := hide ((Kept.refl [] w).alloc (.cells #[.bool false, .bool true] 4))
  obtain ⟨z, hz⟩ : ∃ z, w.heap.size = z := ⟨_, rfl⟩
  have HZ := hide hz
  rw [hz] at B0
  simp only [hz]
  clear hz
  generalize hwA : (w.alloc (.cells #[.bool false, .bool true] 4)) = wA at B0 k0 ⊢
  clear hwA
  have HA := hide (H.out.keep k0.out)
  go_loopw [23] (fun i wr => (i = .int .i64 0 ∨ (i = .int .i64 1 ∧ Hid (x ≠ old)) ∨ (i = .int .i64 2 ∧ Hid (x ≠ old ∧ y ≠ old))) ∧ wr = wA) (fun i _ => 2 - (intOf i).toNat)
  case atStart => exact ⟨.inl rfl, rfl⟩
  case round =>
    obtain ⟨(rfl | ⟨rfl, hn1⟩ | ⟨rfl, hn2⟩), rfl⟩ := hrel
    · have c0 := B0.out.cell 0
      go_wp2_with fail
      refine (table_base HA.out).mono ?_
      rintro e w' ⟨rfl, rfl⟩
      go_wp2_with fail
      refine (HX.out _ HA.out).mono ?_
      rintro e w' ⟨⟨k, rfl⟩, rfl⟩
      by_cases hq : x = old
      · have hd2 : (x == old) = true := beq_iff_eq.2 hq
        have HQ := hide hq
        clear hq
        go_wp2_with fail
        refine (HSX.out HQ.out _ HA.out).mono ?_
        rintro e w2 ⟨rfl, hi, hk⟩
        have HI := hide hi
        have HK := hide ((k0.out.mono (S' := [X.V, X.D, X.U, X.E]) (by simp)).trans hk (fun y hy => .inl hy))
        clear hi hk
        go_wp2
        go_ret
        exact ⟨rfl, HI.out, HK.out⟩
      · have hd2 : (x == old) = false := beq_eq_false_iff_ne.2 hq
        have HQ := hide hq
        clear hq
        go_wp2
        go_roundw
        case rel => exact ⟨.inr (.inl ⟨by go_num, HQ⟩), trivial⟩
        case measure => simp [intOf]
    · have c1 := B0.out.cell 1
      go_wp2_with fail
      refine (table_over HA.out).mono ?_
      rintro e w' ⟨rfl, rfl⟩
      go_wp2_with fail
      refine (HY.out _ HA.out).mono ?_
      rintro e w' ⟨⟨k, rfl⟩, rfl⟩
      by_cases hq : y = old
      · have hd2 : (y == old) = true := beq_iff_eq.2 hq
        have HQ := hide hq
        clear hq
        go_wp2_with fail
        refine (HSY.out hn1.out HQ.out _ HA.out).mono ?_
        rintro e w2 ⟨rfl, hi, hk⟩
        have HI := hide hi
        have HK := hide ((k0.out.mono (S' := [X.V, X.D, X.U, X.E]) (by simp)).trans hk (fun y hy => .inl hy))
        clear hi hk
        go_wp2
        go_ret
        exact ⟨rfl, HI.out, HK.out⟩
      · have hd2 : (y == old) = false := beq_eq_false_iff_ne.2 hq
        have HQ := hide (show x ≠ old ∧ y ≠ old from ⟨hn1.out, hq⟩)
        clear hq
        go_wp2
        go_roundw
        case rel => exact ⟨.inr (.inr ⟨by go_num, HQ⟩), trivial⟩
        case measure => simp [intOf]
    · go_wp2
      go_ret
      obtain ⟨rfl, rfl⟩ := HNO.out hn2.out.1 hn2.out.2
      exact ⟨rfl, HA.out, k0.out.mono (by simp)⟩
theorem get_no {p V D : Nat} {t : Tb} (h : ImT w p V D t) (b : Int) (hb : ¬ (0 ≤ b ∧ b < t.l.length)) : Calls Try.prog 45 #[.pointer (some ⟨p, 0, none⟩), .int .i64 b] w fun e w' => (∃ k, e = .returned (.tuple #[.int .i64 0, .bool k])) ∧ w = w' :=
  (get_int_no h b (by rwa [List.length_map])).mono fun e w' ⟨h1, h2⟩ => ⟨⟨_, h1⟩, h2⟩
theorem get_yes {p V D : Nat} {t : Tb} (h : ImT w p V D t) (b : Nat) (hb : b < t.l.length) : Calls Try.prog 45 #[.pointer (some ⟨p, 0, none⟩), .int .i64 b] w fun e w' => (∃ k, e = .returned (.tuple #[.int .i64 (t.l.getD b 0), .bool k])) ∧ w = w' :=
  (get_int_at h b b rfl _ (getD_of hb)).mono fun e w' ⟨h1, h2⟩ => ⟨⟨_, h1⟩, h2⟩
theorem move_out (h : IAt w X M) (b old a : Int) (ho : 1 ≤ old) (h1 : 1 ≤ a) (h2 : a < 4096) (hb : ¬ (0 ≤ b ∧ b < M.b.l.length)) :
    Calls Try.prog 20 #[.pointer (some ⟨X.m, 0, none⟩), .int .i64 b, .int .i64 old, .int .i64 a] w fun e w' => e = .returned (.bool false) ∧ IAt w' X M ∧ Kept [X.V, X.D, X.U, X.E] w w' :=
  move_any h b old a ho h1 h2 0 0 false M (fun W H => get_no H.base b hb) (fun W H => get_no H.over b (by rw [H.len]; exact hb)) (fun e => by omega) (fun _ e => by omega) (fun _ _ => ⟨rfl, rfl⟩)
theorem move_in (h : IAt w X M) (b : Nat) (old a : Int) (ho : 1 ≤ old) (h1 : 1 ≤ a) (h2 : a < 4096) (hb : b < M.b.l.length) :
    Calls Try.prog 20 #[.pointer (some ⟨X.m, 0, none⟩), .int .i64 b, .int .i64 old, .int .i64 a] w fun e w' => e = .returned (.bool (M.move b old a).2) ∧ IAt w' X (M.move b old a).1 ∧ Kept [X.V, X.D, X.U, X.E] w w' := by
  refine move_any h b old a ho h1 h2 (M.b.l.getD b 0) (M.o.l.getD b 0) _ _ (fun W H => get_yes H.base b hb) (fun W H => get_yes H.over b (by rw [H.len]; exact hb)) (fun e W H => ?_) (fun e1 e W H => ?_) (fun e1 e2 => ?_)
  · unfold Im.move
    rw [if_pos e]
    refine (set_tab H.base b hb a).mono ?_
    rintro e w' ⟨rfl, ht, hk⟩
    exact ⟨rfl, H.turn false hk ht (Tb.swap_len _ _ _), hk.mono (fun y hy => .inl (by simp at hy ⊢; rcases hy with h | h <;> simp [h]))⟩
  · unfold Im.move
    rw [if_neg e1, if_pos e]
    refine (set_tab H.over b (by rw [H.len]; exact hb) a).mono ?_
    rintro e w' ⟨rfl, ht, hk⟩
    exact ⟨rfl, H.turn true hk ht (Tb.swap_len _ _ _), hk.mono (fun y hy => .inl (by simp at hy ⊢; rcases hy with h | h <;> simp [h]))⟩
  · unfold Im.move
    rw [if_neg e1, if_neg e2]
    exact ⟨rfl, rfl⟩
end
end Go.Proofs.Ytfeepmahipecpaa.im
