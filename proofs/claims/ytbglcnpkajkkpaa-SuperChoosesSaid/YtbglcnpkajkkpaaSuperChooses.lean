/-
  The given statement SuperChoosesSaid is proved: whatever the arguments are, the law returns true and leaves its input as it was. No conditions.
-/
import Derived.Test.YtbglcnpkajkkpaaSuperMade
import Derived.Test.YtbglcnpkajkkpaaShapes
import Derived.Test.YtbglcnpkajkkpaaFar
import Derived.Test.YtbglcnpkajkkpaaOrders
import Derived.Deep.CutRange
import Derived.WalkKit
import Derived.ProofKit
import Derived.OpenShut
import Derived.ShutString
import Derived.ChangeOld
import Derived.Below
namespace Go.Proofs.Ytbglcnpkajkkpaa.superChooses
open Go.ChangeShapes Go.WideShapes Go.ChangeAt Go.RowKit
open Go.ChangeMaps (open_string shut_string)
open Go.Proofs.Ytbglcnpkajkkpaa.mem Go.Proofs.Ytbglcnpkajkkpaa.base Go.Proofs.Ytbglcnpkajkkpaa.super Go.Proofs.Ytbglcnpkajkkpaa.row
set_option linter.unusedVariables false

theorem own : ownKnob Try.prog.godebug = none := by kernel_rfl
theorem laidOut : laidOutB Try.prog = true := by kernel_rfl

theorem and_small (p : Int) (b : Nat) (hb : b < 9223372036854775808) : bits .and .i64 p (b : Int) = (((BitVec.ofInt 64 p).toNat &&& b : Nat) : Int) := by
  have hx : (BitVec.ofInt 64 p).toNat &&& b ≤ b := Nat.and_le_right
  show IntKind.i64.wrap ((BitVec.ofInt 64 p &&& BitVec.ofInt 64 (b : Int)).toNat : Int) = _
  rw [BitVec.toNat_and, ofInt_i64 b hb, IntKind.wrap_i64]
  omega
theorem low2 (p : Int) : (bits .and .i64 p 1 = 0 ∧ bits .and .i64 p 2 = 0 ∧ bits .and .i64 p 3 = 0) ∨ (bits .and .i64 p 1 = 1 ∧ bits .and .i64 p 2 = 0 ∧ bits .and .i64 p 3 = 1) ∨
    (bits .and .i64 p 1 = 0 ∧ bits .and .i64 p 2 = 2 ∧ bits .and .i64 p 3 = 2) ∨ (bits .and .i64 p 1 = 1 ∧ bits .and .i64 p 2 = 2 ∧ bits .and .i64 p 3 = 3) := by
  have h1 := and_small p 1 (by omega)
  have h2 := and_small p 2 (by omega)
  have h3 := and_small p 3 (by omega)
  generalize (BitVec.ofInt 64 p).toNat = n at h1 h2 h3
  have e1 : n &&& 1 = (n &&& 3) &&& 1 := by rw [Nat.and_assoc]; rfl
  have e2 : n &&& 2 = (n &&& 3) &&& 2 := by rw [Nat.and_assoc]; rfl
  have e3 : n &&& 3 = n % 4 := Nat.and_two_pow_sub_one_eq_mod n 2
  rw [e1, e3] at h1
  rw [e2, e3] at h2
  rw [e3] at h3
  have hr : n % 4 = 0 ∨ n % 4 = 1 ∨ n % 4 = 2 ∨ n % 4 = 3 := by omega
  rcases hr with e | e | e | e <;> rw [e] at h1 h2 h3
  · exact .inl ⟨h1, h2, h3⟩
  · exact .inr (.inl ⟨h1, h2, h3⟩)
  · exact .inr (.inr (.inl ⟨h1, h2, h3⟩))
  · exact .inr (.inr (.inr ⟨h1, h2, h3⟩))

theorem decode_spoilt (S : Su) : super.decode (S.bytes.set 20 1) = (Su.zero, 2) :=
  decode_no _ fun T _ e => by
    have h := bytes_20 T
    rw [e, List.getElem?_set_self (by rw [S.bytes_len]; omega)] at h
    cases h
theorem may_m (S : Su) (h : S.may = true) : 1 ≤ S.m := ((S.may_iff).1 h).2.2.2.2.1
theorem choose_none (S T : Su) : super.choose (S.bytes.set 20 1) (T.bytes.set 20 1) = (Su.zero, 0, 2) := by
  unfold super.choose
  rw [decode_spoilt, decode_spoilt]
  rfl
theorem choose_first (S T : Su) (h : S.may = true) : super.choose S.bytes (T.bytes.set 20 1) = (S, 0, 0) := by
  have hm := may_m S h
  unfold super.choose
  rw [decode_bytes S h, decode_spoilt, if_neg (by show ¬ (0 : Int) > S.m; omega), if_pos (by show S.m > 0; omega)]
theorem choose_second (S T : Su) (h : T.may = true) : super.choose (S.bytes.set 20 1) T.bytes = (T, 1, 0) := by
  have hm := may_m T h
  unfold super.choose
  rw [decode_bytes T h, decode_spoilt, if_pos (by show T.m > 0; omega)]
theorem choose_later (S T : Su) (h : S.may = true) (k : T.may = true) (hm : T.m > S.m) : super.choose S.bytes T.bytes = (T, 1, 0) := by
  unfold super.choose
  rw [decode_bytes S h, decode_bytes T k, if_pos hm]
theorem choose_former (S T : Su) (h : S.may = true) (k : T.may = true) (hm : ¬ T.m > S.m) : super.choose S.bytes T.bytes = (S, 0, 0) := by
  have h1 := may_m S h
  unfold super.choose
  rw [decode_bytes S h, decode_bytes T k, if_neg hm, if_pos (by show S.m > 0; omega)]

set_option maxRecDepth 100000 in
set_option maxHeartbeats 4000000 in
theorem walk_in (x y z m1 m2 p : Int) (w : World) :
    Calls Try.prog 6 #[.agg #[.int .i64 x, .int .i64 y, .int .i64 z], .int .i64 m1, .int .i64 m2, .int .i64 p] w fun e w' => e = .returned (.bool true) ∧ Below w.heap.size w w' := by
  obtain ⟨W1, hw1⟩ : ∃ W1, w.alloc (.cells #[.int .i64 x, .int .i64 y, .int .i64 z] 40) = W1 := ⟨_, rfl⟩
  have HK0 : Hid (Kept [] w W1.drew) := by rw [← hw1]; exact hide ((Kept.refl [] w).alloc _).drew
  obtain ⟨a, ha⟩ : ∃ a, w.heap.size = a := ⟨_, rfl⟩
  have HA0 : Hid (Blk W1.drew a 40 #[.int .i64 x, .int .i64 y, .int .i64 z]) := by rw [← hw1, ← ha]; exact hide (Blk.new w _ _).drew
  go_enter Try.func6, Try.ntmps6
  go_wp2_with fail
  clear hw1
  go_cut [9, 10] from 18 to 23 (fun p9 p10 wx => ∃ (S T : Su) (g6 g7 : Nat), p9 = .pointer (some ⟨g6, 0, none⟩) ∧ p10 = .pointer (some ⟨g7, 0, none⟩) ∧ Hid (S.may = true) ∧ Hid (T.may = true) ∧ Hid (Kept [] w wx) ∧ Hid (Blk wx g6 25 S.cells) ∧ Hid (Blk wx g7 25 T.cells))
  case first =>
    refine wp_region_noPanic ?_
    refine wp_region_held_drew (S := fun W => W.cell? ⟨a, 0, none⟩ = some (.int .i64 x) ∧ W.cell? ⟨a, 1, none⟩ = some (.int .i64 y) ∧ W.cell? ⟨a, 2, none⟩ = some (.int .i64 z)) (by kernel_rfl) (by exact ⟨HA0.out.cell 0, HA0.out.cell 1, HA0.out.cell 2⟩) (fun hHeld => ?_)
    refine wpAnyH_take (i := 0) (oi := ⟨some 18, _, _, _, _, _⟩) (v := ?v0) rfl (by kernel_rfl) (by kernel_rfl) (by kernel_rfl) (fun _ _ _ h => h) (Or.inl ⟨by rfl, ?hy0⟩) (by assumption) ?rest0
    case hy0 => (intro W hSw; (try dsimp only at hSw); go_simp; try with_reducible rfl)
    try simp only [Act.put, List.setIfInBounds_toArray, List.set_cons_zero, List.set_cons_succ]
    refine wpAnyH_take (i := 1) (oi := ⟨some 19, _, _, _, _, _⟩) (v := ?v1) rfl (by kernel_rfl) (by kernel_rfl) (by kernel_rfl) (fun _ _ _ h => h) (Or.inl ⟨by rfl, ?hy1⟩) (by assumption) ?rest1
    case hy1 => (intro W hSw; (try dsimp only at hSw); go_simp; try with_reducible rfl)
    try simp only [Act.put, List.setIfInBounds_toArray, List.set_cons_zero, List.set_cons_succ]
    refine wpAnyH_take (i := 3) (oi := ⟨some 21, _, _, _, _, _⟩) (v := ?v2) rfl (by kernel_rfl) (by kernel_rfl) (by kernel_rfl) (fun _ _ _ h => h) (Or.inl ⟨by rfl, ?hy2⟩) (by assumption) ?rest2
    case hy2 => (intro W hSw; (try dsimp only at hSw); go_simp; try with_reducible rfl)
    try simp only [Act.put, List.setIfInBounds_toArray, List.set_cons_zero, List.set_cons_succ]
    refine wpAnyH_take (i := 4) (oi := ⟨some 22, _, _, _, _, _⟩) (v := ?v3) rfl (by kernel_rfl) (by kernel_rfl) (by kernel_rfl) (fun _ _ _ h => h) (Or.inl ⟨by rfl, ?hy3⟩) (by assumption) ?rest3
    case hy3 => (intro W hSw; (try dsimp only at hSw); go_simp; try with_reducible rfl)
    try simp only [Act.put, List.setIfInBounds_toArray, List.set_cons_zero, List.set_cons_succ]
    clear hHeld
    generalize World.drew W1 = V0 at HK0 HA0 ⊢
    refine next_three (i := 2) (j := 6) (l := 7) (o := ⟨some 20, _, _, _, _, _⟩) (o' := ⟨some 9, _, _, _, _, _⟩) (o'' := ⟨some 10, _, _, _, _, _⟩) (by kernel_rfl) rfl (by rfl) rfl (by rfl) rfl (by rfl) (fun K hK => ?_) (fun K hK => ?_) (fun K hK => ?_)
    · go_simp
      refine (made_any x y z 1 m1 _).mono ?_
      rintro e V1 ⟨S, rfl, hmS, hk⟩
      unfold Su.val
      have HMS := hide hmS
      clear hmS
      have HK1 := hide (HK0.out.trans hk (by simp))
      have HA1 := hide (hk.blk HA0.out (by simp))
      clear hk HK0 HA0
      refine hK _ _ ⟨HA1.out.cell 0, HA1.out.cell 1, HA1.out.cell 2⟩ ?_
      clear hK K
      try simp only [Act.put, List.setIfInBounds_toArray, List.set_cons_zero, List.set_cons_succ]
      refine next_three (i := 5) (j := 6) (l := 7) (o := ⟨some 23, _, _, _, _, _⟩) (o' := ⟨some 9, _, _, _, _, _⟩) (o'' := ⟨some 10, _, _, _, _, _⟩) (by kernel_rfl) rfl (by rfl) rfl (by rfl) rfl (by rfl) (fun K hK => ?_) (fun K hK => ?_) (fun K hK => ?_)
      · go_simp
        refine (made_any x y z 2 m2 _).mono ?_
        rintro e V2 ⟨T, rfl, hmT, hk⟩
        unfold Su.val
        have HMT := hide hmT
        clear hmT
        have HK2 := hide (HK1.out.trans hk (by simp))
        have HA2 := hide (hk.blk HA1.out (by simp))
        clear hk HK1 HA1
        refine hK _ _ ⟨HA2.out.cell 0, HA2.out.cell 1, HA2.out.cell 2⟩ ?_
        clear hK K
        try simp only [Act.put, List.setIfInBounds_toArray, List.set_cons_zero, List.set_cons_succ]
        refine next_two (i := 6) (j := 7) (o := ⟨some 9, _, _, _, _, _⟩) (o' := ⟨some 10, _, _, _, _, _⟩) (by kernel_rfl) rfl (by rfl) rfl (by rfl) (fun K hK => ?_) (fun K hK => ?_)
        · go_simp
          have hb : Blk (V2.alloc (.cells #[.int .i64 0, .int .i64 0, .int .i64 0, .int .i64 0, .int .i64 0] 25)) V2.heap.size 25 Su.zero.cells := Blk.new V2 _ _
          have hk : Kept [] V2 (V2.alloc (.cells #[.int .i64 0, .int .i64 0, .int .i64 0, .int .i64 0, .int .i64 0] 25)) := (Kept.refl [] V2).alloc _
          obtain ⟨g6, hg⟩ : ∃ g6, V2.heap.size = g6 := ⟨_, rfl⟩
          have ha6 : a ≠ g6 := by have := HA2.out.lt; omega
          have hz6 : w.heap.size ≤ g6 := by have := HK2.out.size; omega
          rw [hg] at hb ⊢
          generalize V2.alloc (.cells #[.int .i64 0, .int .i64 0, .int .i64 0, .int .i64 0, .int .i64 0] 25) = V3 at hb hk ⊢
          have HG6_3 := hide hb
          clear hb hg
          have HK3 := hide (HK2.out.trans hk (by simp))
          have HA3 := hide (hk.blk HA2.out (by simp))
          clear hk HK2 HA2
          refine hK _ _ ⟨HA3.out.cell 0, HA3.out.cell 1, HA3.out.cell 2⟩ ?_
          clear hK K
          try simp only [Act.put, List.setIfInBounds_toArray, List.set_cons_zero, List.set_cons_succ]
          refine next_one (i := 7) (o := ⟨some 10, _, _, _, _, _⟩) (by kernel_rfl) rfl (by rfl) (fun K hK => ?_)
          go_simp
          have hb : Blk (V3.alloc (.cells #[.int .i64 0, .int .i64 0, .int .i64 0, .int .i64 0, .int .i64 0] 25)) V3.heap.size 25 Su.zero.cells := Blk.new V3 _ _
          have hk : Kept [] V3 (V3.alloc (.cells #[.int .i64 0, .int .i64 0, .int .i64 0, .int .i64 0, .int .i64 0] 25)) := (Kept.refl [] V3).alloc _
          obtain ⟨g7, hg⟩ : ∃ g7, V3.heap.size = g7 := ⟨_, rfl⟩
          have ha7 : a ≠ g7 := by have := HA3.out.lt; omega
          have hz7 : w.heap.size ≤ g7 := by have := HK3.out.size; omega
          have h67 : g6 ≠ g7 := by have := HG6_3.out.lt; omega
          rw [hg] at hb ⊢
          generalize V3.alloc (.cells #[.int .i64 0, .int .i64 0, .int .i64 0, .int .i64 0, .int .i64 0] 25) = V4 at hb hk ⊢
          have HG7_4 := hide hb
          clear hb hg
          have HK4 := hide (HK3.out.trans hk (by simp))
          have HA4 := hide (hk.blk HA3.out (by simp))
          have HG6_4 := hide (hk.blk HG6_3.out (by simp))
          clear hk HK3 HA3 HG6_3
          refine hK _ _ ⟨HA4.out.cell 0, HA4.out.cell 1, HA4.out.cell 2⟩ ?_
          clear hK K
          try simp only [Act.put, List.setIfInBounds_toArray, List.set_cons_zero, List.set_cons_succ]
          refine next_one (i := 8) (o := ⟨none, _, _, _, _, _⟩) (by kernel_rfl) rfl (by rfl) (fun K hK => ?_)
          obtain ⟨d0, d1, d2, d3, d4⟩ := Su.cell_at HG6_4.out
          have f0 := HG6_4.out.frozen 0
          have f1 := HG6_4.out.frozen 1
          have f2 := HG6_4.out.frozen 2
          have f3 := HG6_4.out.frozen 3
          have f4 := HG6_4.out.frozen 4
          have hb := Su.put_at S.k S.s S.l S.i S.m HG6_4.out
          have hk := Su.put_kept (S := [g6]) (g := g6) S.k S.s S.l S.i S.m (Kept.refl [g6] V4) (.inl (by simp))
          go_simp
          generalize (((((V4.setCell ⟨g6, 0, none⟩ (.int .i64 S.k)).setCell ⟨g6, 1, none⟩ (.int .i64 S.s)).setCell ⟨g6, 2, none⟩ (.int .i64 S.l)).setCell ⟨g6, 3, none⟩ (.int .i64 S.i)).setCell ⟨g6, 4, none⟩ (.int .i64 S.m)) = V5 at hb hk ⊢
          have HG6_5 := hide hb
          have HG7_5 := hide (hk.blk HG7_4.out (by simp; exact Ne.symm h67))
          have HA5 := hide (hk.blk HA4.out (by simp; exact ha6))
          have HK5 := hide (HK4.out.trans hk (by simp; exact hz6))
          clear hb hk HG6_4 HG7_4 HA4 HK4 d0 d1 d2 d3 d4 f0 f1 f2 f3 f4
          refine hK _ _ ⟨HA5.out.cell 0, HA5.out.cell 1, HA5.out.cell 2⟩ ?_
          clear hK K
          try simp only [Act.put, List.setIfInBounds_toArray, List.set_cons_zero, List.set_cons_succ]
          refine next_one (i := 9) (o := ⟨none, _, _, _, _, _⟩) (by kernel_rfl) rfl (by rfl) (fun K hK => ?_)
          obtain ⟨d0, d1, d2, d3, d4⟩ := Su.cell_at HG7_5.out
          have f0 := HG7_5.out.frozen 0
          have f1 := HG7_5.out.frozen 1
          have f2 := HG7_5.out.frozen 2
          have f3 := HG7_5.out.frozen 3
          have f4 := HG7_5.out.frozen 4
          have hb := Su.put_at T.k T.s T.l T.i T.m HG7_5.out
          have hk := Su.put_kept (S := [g7]) (g := g7) T.k T.s T.l T.i T.m (Kept.refl [g7] V5) (.inl (by simp))
          go_simp
          generalize (((((V5.setCell ⟨g7, 0, none⟩ (.int .i64 T.k)).setCell ⟨g7, 1, none⟩ (.int .i64 T.s)).setCell ⟨g7, 2, none⟩ (.int .i64 T.l)).setCell ⟨g7, 3, none⟩ (.int .i64 T.i)).setCell ⟨g7, 4, none⟩ (.int .i64 T.m)) = V6 at hb hk ⊢
          have HG7_6 := hide hb
          have HG6_6 := hide (hk.blk HG6_5.out (by simp; exact h67))
          have HA6 := hide (hk.blk HA5.out (by simp; exact ha7))
          have HK6 := hide (HK5.out.trans hk (by simp; exact hz7))
          clear hb hk HG6_5 HG7_5 HA5 HK5 d0 d1 d2 d3 d4 f0 f1 f2 f3 f4
          refine hK _ _ ⟨HA6.out.cell 0, HA6.out.cell 1, HA6.out.cell 2⟩ ?_
          clear hK K
          try simp only [Act.put, List.setIfInBounds_toArray, List.set_cons_zero, List.set_cons_succ]
          refine wpAnyH_done (by kernel_rfl) ?_ _
          refine NoPanic.normal ?_
          go_wp2_with fail
          go_meet
          exact ⟨S, T, g6, g7, rfl, rfl, HMS, HMT, HK6, HG6_6, HG7_6⟩
        · go_simp
          have hb : Blk (V2.alloc (.cells #[.int .i64 0, .int .i64 0, .int .i64 0, .int .i64 0, .int .i64 0] 25)) V2.heap.size 25 Su.zero.cells := Blk.new V2 _ _
          have hk : Kept [] V2 (V2.alloc (.cells #[.int .i64 0, .int .i64 0, .int .i64 0, .int .i64 0, .int .i64 0] 25)) := (Kept.refl [] V2).alloc _
          obtain ⟨g7, hg⟩ : ∃ g7, V2.heap.size = g7 := ⟨_, rfl⟩
          have ha7 : a ≠ g7 := by have := HA2.out.lt; omega
          have hz7 : w.heap.size ≤ g7 := by have := HK2.out.size; omega
          rw [hg] at hb ⊢
          generalize V2.alloc (.cells #[.int .i64 0, .int .i64 0, .int .i64 0, .int .i64 0, .int .i64 0] 25) = V3 at hb hk ⊢
          have HG7_3 := hide hb
          clear hb hg
          have HK3 := hide (HK2.out.trans hk (by simp))
          have HA3 := hide (hk.blk HA2.out (by simp))
          clear hk HK2 HA2
          refine hK _ _ ⟨HA3.out.cell 0, HA3.out.cell 1, HA3.out.cell 2⟩ ?_
          clear hK K
          try simp only [Act.put, List.setIfInBounds_toArray, List.set_cons_zero, List.set_cons_succ]
          refine next_one (i := 6) (o := ⟨some 9, _, _, _, _, _⟩) (by kernel_rfl) rfl (by rfl) (fun K hK => ?_)
          go_simp
          have hb : Blk (V3.alloc (.cells #[.int .i64 0, .int .i64 0, .int .i64 0, .int .i64 0, .int .i64 0] 25)) V3.heap.size 25 Su.zero.cells := Blk.new V3 _ _
          have hk : Kept [] V3 (V3.alloc (.cells #[.int .i64 0, .int .i64 0, .int .i64 0, .int .i64 0, .int .i64 0] 25)) := (Kept.refl [] V3).alloc _
          obtain ⟨g6, hg⟩ : ∃ g6, V3.heap.size = g6 := ⟨_, rfl⟩
          have ha6 : a ≠ g6 := by have := HA3.out.lt; omega
          have hz6 : w.heap.size ≤ g6 := by have := HK3.out.size; omega
          have h67 : g6 ≠ g7 := by have := HG7_3.out.lt; omega
          rw [hg] at hb ⊢
          generalize V3.alloc (.cells #[.int .i64 0, .int .i64 0, .int .i64 0, .int .i64 0, .int .i64 0] 25) = V4 at hb hk ⊢
          have HG6_4 := hide hb
          clear hb hg
          have HK4 := hide (HK3.out.trans hk (by simp))
          have HA4 := hide (hk.blk HA3.out (by simp))
          have HG7_4 := hide (hk.blk HG7_3.out (by simp))
          clear hk HK3 HA3 HG7_3
          refine hK _ _ ⟨HA4.out.cell 0, HA4.out.cell 1, HA4.out.cell 2⟩ ?_
          clear hK K
          try simp only [Act.put, List.setIfInBounds_toArray, List.set_cons_zero, List.set_cons_succ]
          refine next_one (i := 8) (o := ⟨none, _, _, _, _, _⟩) (by kernel_rfl) rfl (by rfl) (fun K hK => ?_)
          obtain ⟨d0, d1, d2, d3, d4⟩ := Su.cell_at HG6_4.out
          have f0 := HG6_4.out.frozen 0
          have f1 := HG6_4.out.frozen 1
          have f2 := HG6_4.out.frozen 2
          have f3 := HG6_4.out.frozen 3
          have f4 := HG6_4.out.frozen 4
          have hb := Su.put_at S.k S.s S.l S.i S.m HG6_4.out
          have hk := Su.put_kept (S := [g6]) (g := g6) S.k S.s S.l S.i S.m (Kept.refl [g6] V4) (.inl (by simp))
          go_simp
          generalize (((((V4.setCell ⟨g6, 0, none⟩ (.int .i64 S.k)).setCell ⟨g6, 1, none⟩ (.int .i64 S.s)).setCell ⟨g6, 2, none⟩ (.int .i64 S.l)).setCell ⟨g6, 3, none⟩ (.int .i64 S.i)).setCell ⟨g6, 4, none⟩ (.int .i64 S.m)) = V5 at hb hk ⊢
          have HG6_5 := hide hb
          have HG7_5 := hide (hk.blk HG7_4.out (by simp; exact Ne.symm h67))
          have HA5 := hide (hk.blk HA4.out (by simp; exact ha6))
          have HK5 := hide (HK4.out.trans hk (by simp; exact hz6))
          clear hb hk HG6_4 HG7_4 HA4 HK4 d0 d1 d2 d3 d4 f0 f1 f2 f3 f4
          refine hK _ _ ⟨HA5.out.cell 0, HA5.out.cell 1, HA5.out.cell 2⟩ ?_
          clear hK K
          try simp only [Act.put, List.setIfInBounds_toArray, List.set_cons_zero, List.set_cons_succ]
          refine next_one (i := 9) (o := ⟨none, _, _, _, _, _⟩) (by kernel_rfl) rfl (by rfl) (fun K hK => ?_)
          obtain ⟨d0, d1, d2, d3, d4⟩ := Su.cell_at HG7_5.out
          have f0 := HG7_5.out.frozen 0
          have f1 := HG7_5.out.frozen 1
          have f2 := HG7_5.out.frozen 2
          have f3 := HG7_5.out.frozen 3
          have f4 := HG7_5.out.frozen 4
          have hb := Su.put_at T.k T.s T.l T.i T.m HG7_5.out
          have hk := Su.put_kept (S := [g7]) (g := g7) T.k T.s T.l T.i T.m (Kept.refl [g7] V5) (.inl (by simp))
          go_simp
          generalize (((((V5.setCell ⟨g7, 0, none⟩ (.int .i64 T.k)).setCell ⟨g7, 1, none⟩ (.int .i64 T.s)).setCell ⟨g7, 2, none⟩ (.int .i64 T.l)).setCell ⟨g7, 3, none⟩ (.int .i64 T.i)).setCell ⟨g7, 4, none⟩ (.int .i64 T.m)) = V6 at hb hk ⊢
          have HG7_6 := hide hb
          have HG6_6 := hide (hk.blk HG6_5.out (by simp; exact h67))
          have HA6 := hide (hk.blk HA5.out (by simp; exact ha7))
          have HK6 := hide (HK5.out.trans hk (by simp; exact hz7))
          clear hb hk HG6_5 HG7_5 HA5 HK5 d0 d1 d2 d3 d4 f0 f1 f2 f3 f4
          refine hK _ _ ⟨HA6.out.cell 0, HA6.out.cell 1, HA6.out.cell 2⟩ ?_
          clear hK K
          try simp only [Act.put, List.setIfInBounds_toArray, List.set_cons_zero, List.set_cons_succ]
          refine wpAnyH_done (by kernel_rfl) ?_ _
          refine NoPanic.normal ?_
          go_wp2_with fail
          go_meet
          exact ⟨S, T, g6, g7, rfl, rfl, HMS, HMT, HK6, HG6_6, HG7_6⟩
      · go_simp
        have hb : Blk (V1.alloc (.cells #[.int .i64 0, .int .i64 0, .int .i64 0, .int .i64 0, .int .i64 0] 25)) V1.heap.size 25 Su.zero.cells := Blk.new V1 _ _
        have hk : Kept [] V1 (V1.alloc (.cells #[.int .i64 0, .int .i64 0, .int .i64 0, .int .i64 0, .int .i64 0] 25)) := (Kept.refl [] V1).alloc _
        obtain ⟨g6, hg⟩ : ∃ g6, V1.heap.size = g6 := ⟨_, rfl⟩
        have ha6 : a ≠ g6 := by have := HA1.out.lt; omega
        have hz6 : w.heap.size ≤ g6 := by have := HK1.out.size; omega
        rw [hg] at hb ⊢
        generalize V1.alloc (.cells #[.int .i64 0, .int .i64 0, .int .i64 0, .int .i64 0, .int .i64 0] 25) = V2 at hb hk ⊢
        have HG6_2 := hide hb
        clear hb hg
        have HK2 := hide (HK1.out.trans hk (by simp))
        have HA2 := hide (hk.blk HA1.out (by simp))
        clear hk HK1 HA1
        refine hK _ _ ⟨HA2.out.cell 0, HA2.out.cell 1, HA2.out.cell 2⟩ ?_
        clear hK K
        try simp only [Act.put, List.setIfInBounds_toArray, List.set_cons_zero, List.set_cons_succ]
        refine next_two (i := 5) (j := 7) (o := ⟨some 23, _, _, _, _, _⟩) (o' := ⟨some 10, _, _, _, _, _⟩) (by kernel_rfl) rfl (by rfl) rfl (by rfl) (fun K hK => ?_) (fun K hK => ?_)
        · go_simp
          refine (made_any x y z 2 m2 _).mono ?_
          rintro e V3 ⟨T, rfl, hmT, hk⟩
          unfold Su.val
          have HMT := hide hmT
          clear hmT
          have HK3 := hide (HK2.out.trans hk (by simp))
          have HA3 := hide (hk.blk HA2.out (by simp))
          have HG6_3 := hide (hk.blk HG6_2.out (by simp))
          clear hk HK2 HA2 HG6_2
          refine hK _ _ ⟨HA3.out.cell 0, HA3.out.cell 1, HA3.out.cell 2⟩ ?_
          clear hK K
          try simp only [Act.put, List.setIfInBounds_toArray, List.set_cons_zero, List.set_cons_succ]
          refine next_one (i := 7) (o := ⟨some 10, _, _, _, _, _⟩) (by kernel_rfl) rfl (by rfl) (fun K hK => ?_)
          go_simp
          have hb : Blk (V3.alloc (.cells #[.int .i64 0, .int .i64 0, .int .i64 0, .int .i64 0, .int .i64 0] 25)) V3.heap.size 25 Su.zero.cells := Blk.new V3 _ _
          have hk : Kept [] V3 (V3.alloc (.cells #[.int .i64 0, .int .i64 0, .int .i64 0, .int .i64 0, .int .i64 0] 25)) := (Kept.refl [] V3).alloc _
          obtain ⟨g7, hg⟩ : ∃ g7, V3.heap.size = g7 := ⟨_, rfl⟩
          have ha7 : a ≠ g7 := by have := HA3.out.lt; omega
          have hz7 : w.heap.size ≤ g7 := by have := HK3.out.size; omega
          have h67 : g6 ≠ g7 := by have := HG6_3.out.lt; omega
          rw [hg] at hb ⊢
          generalize V3.alloc (.cells #[.int .i64 0, .int .i64 0, .int .i64 0, .int .i64 0, .int .i64 0] 25) = V4 at hb hk ⊢
          have HG7_4 := hide hb
          clear hb hg
          have HK4 := hide (HK3.out.trans hk (by simp))
          have HA4 := hide (hk.blk HA3.out (by simp))
          have HG6_4 := hide (hk.blk HG6_3.out (by simp))
          clear hk HK3 HA3 HG6_3
          refine hK _ _ ⟨HA4.out.cell 0, HA4.out.cell 1, HA4.out.cell 2⟩ ?_
          clear hK K
          try simp only [Act.put, List.setIfInBounds_toArray, List.set_cons_zero, List.set_cons_succ]
          refine next_one (i := 8) (o := ⟨none, _, _, _, _, _⟩) (by kernel_rfl) rfl (by rfl) (fun K hK => ?_)
          obtain ⟨d0, d1, d2, d3, d4⟩ := Su.cell_at HG6_4.out
          have f0 := HG6_4.out.frozen 0
          have f1 := HG6_4.out.frozen 1
          have f2 := HG6_4.out.frozen 2
          have f3 := HG6_4.out.frozen 3
          have f4 := HG6_4.out.frozen 4
          have hb := Su.put_at S.k S.s S.l S.i S.m HG6_4.out
          have hk := Su.put_kept (S := [g6]) (g := g6) S.k S.s S.l S.i S.m (Kept.refl [g6] V4) (.inl (by simp))
          go_simp
          generalize (((((V4.setCell ⟨g6, 0, none⟩ (.int .i64 S.k)).setCell ⟨g6, 1, none⟩ (.int .i64 S.s)).setCell ⟨g6, 2, none⟩ (.int .i64 S.l)).setCell ⟨g6, 3, none⟩ (.int .i64 S.i)).setCell ⟨g6, 4, none⟩ (.int .i64 S.m)) = V5 at hb hk ⊢
          have HG6_5 := hide hb
          have HG7_5 := hide (hk.blk HG7_4.out (by simp; exact Ne.symm h67))
          have HA5 := hide (hk.blk HA4.out (by simp; exact ha6))
          have HK5 := hide (HK4.out.trans hk (by simp; exact hz6))
          clear hb hk HG6_4 HG7_4 HA4 HK4 d0 d1 d2 d3 d4 f0 f1 f2 f3 f4
          refine hK _ _ ⟨HA5.out.cell 0, HA5.out.cell 1, HA5.out.cell 2⟩ ?_
          clear hK K
          try simp only [Act.put, List.setIfInBounds_toArray, List.set_cons_zero, List.set_cons_succ]
          refine next_one (i := 9) (o := ⟨none, _, _, _, _, _⟩) (by kernel_rfl) rfl (by rfl) (fun K hK => ?_)
          obtain ⟨d0, d1, d2, d3, d4⟩ := Su.cell_at HG7_5.out
          have f0 := HG7_5.out.frozen 0
          have f1 := HG7_5.out.frozen 1
          have f2 := HG7_5.out.frozen 2
          have f3 := HG7_5.out.frozen 3
          have f4 := HG7_5.out.frozen 4
          have hb := Su.put_at T.k T.s T.l T.i T.m HG7_5.out
          have hk := Su.put_kept (S := [g7]) (g := g7) T.k T.s T.l T.i T.m (Kept.refl [g7] V5) (.inl (by simp))
          go_simp
          generalize (((((V5.setCell ⟨g7, 0, none⟩ (.int .i64 T.k)).setCell ⟨g7, 1, none⟩ (.int .i64 T.s)).setCell ⟨g7, 2, none⟩ (.int .i64 T.l)).setCell ⟨g7, 3, none⟩ (.int .i64 T.i)).setCell ⟨g7, 4, none⟩ (.int .i64 T.m)) = V6 at hb hk ⊢
          have HG7_6 := hide hb
          have HG6_6 := hide (hk.blk HG6_5.out (by simp; exact h67))
          have HA6 := hide (hk.blk HA5.out (by simp; exact ha7))
          have HK6 := hide (HK5.out.trans hk (by simp; exact hz7))
          clear hb hk HG6_5 HG7_5 HA5 HK5 d0 d1 d2 d3 d4 f0 f1 f2 f3 f4
          refine hK _ _ ⟨HA6.out.cell 0, HA6.out.cell 1, HA6.out.cell 2⟩ ?_
          clear hK K
          try simp only [Act.put, List.setIfInBounds_toArray, List.set_cons_zero, List.set_cons_succ]
          refine wpAnyH_done (by kernel_rfl) ?_ _
          refine NoPanic.normal ?_
          go_wp2_with fail
          go_meet
          exact ⟨S, T, g6, g7, rfl, rfl, HMS, HMT, HK6, HG6_6, HG7_6⟩
        · go_simp
          have hb : Blk (V2.alloc (.cells #[.int .i64 0, .int .i64 0, .int .i64 0, .int .i64 0, .int .i64 0] 25)) V2.heap.size 25 Su.zero.cells := Blk.new V2 _ _
          have hk : Kept [] V2 (V2.alloc (.cells #[.int .i64 0, .int .i64 0, .int .i64 0, .int .i64 0, .int .i64 0] 25)) := (Kept.refl [] V2).alloc _
          obtain ⟨g7, hg⟩ : ∃ g7, V2.heap.size = g7 := ⟨_, rfl⟩
          have ha7 : a ≠ g7 := by have := HA2.out.lt; omega
          have hz7 : w.heap.size ≤ g7 := by have := HK2.out.size; omega
          have h67 : g6 ≠ g7 := by have := HG6_2.out.lt; omega
          rw [hg] at hb ⊢
          generalize V2.alloc (.cells #[.int .i64 0, .int .i64 0, .int .i64 0, .int .i64 0, .int .i64 0] 25) = V3 at hb hk ⊢
          have HG7_3 := hide hb
          clear hb hg
          have HK3 := hide (HK2.out.trans hk (by simp))
          have HA3 := hide (hk.blk HA2.out (by simp))
          have HG6_3 := hide (hk.blk HG6_2.out (by simp))
          clear hk HK2 HA2 HG6_2
          refine hK _ _ ⟨HA3.out.cell 0, HA3.out.cell 1, HA3.out.cell 2⟩ ?_
          clear hK K
          try simp only [Act.put, List.setIfInBounds_toArray, List.set_cons_zero, List.set_cons_succ]
          refine next_one (i := 5) (o := ⟨some 23, _, _, _, _, _⟩) (by kernel_rfl) rfl (by rfl) (fun K hK => ?_)
          go_simp
          refine (made_any x y z 2 m2 _).mono ?_
          rintro e V4 ⟨T, rfl, hmT, hk⟩
          unfold Su.val
          have HMT := hide hmT
          clear hmT
          have HK4 := hide (HK3.out.trans hk (by simp))
          have HA4 := hide (hk.blk HA3.out (by simp))
          have HG6_4 := hide (hk.blk HG6_3.out (by simp))
          have HG7_4 := hide (hk.blk HG7_3.out (by simp))
          clear hk HK3 HA3 HG6_3 HG7_3
          refine hK _ _ ⟨HA4.out.cell 0, HA4.out.cell 1, HA4.out.cell 2⟩ ?_
          clear hK K
          try simp only [Act.put, List.setIfInBounds_toArray, List.set_cons_zero, List.set_cons_succ]
          refine next_one (i := 8) (o := ⟨none, _, _, _, _, _⟩) (by kernel_rfl) rfl (by rfl) (fun K hK => ?_)
          obtain ⟨d0, d1, d2, d3, d4⟩ := Su.cell_at HG6_4.out
          have f0 := HG6_4.out.frozen 0
          have f1 := HG6_4.out.frozen 1
          have f2 := HG6_4.out.frozen 2
          have f3 := HG6_4.out.frozen 3
          have f4 := HG6_4.out.frozen 4
          have hb := Su.put_at S.k S.s S.l S.i S.m HG6_4.out
          have hk := Su.put_kept (S := [g6]) (g := g6) S.k S.s S.l S.i S.m (Kept.refl [g6] V4) (.inl (by simp))
          go_simp
          generalize (((((V4.setCell ⟨g6, 0, none⟩ (.int .i64 S.k)).setCell ⟨g6, 1, none⟩ (.int .i64 S.s)).setCell ⟨g6, 2, none⟩ (.int .i64 S.l)).setCell ⟨g6, 3, none⟩ (.int .i64 S.i)).setCell ⟨g6, 4, none⟩ (.int .i64 S.m)) = V5 at hb hk ⊢
          have HG6_5 := hide hb
          have HG7_5 := hide (hk.blk HG7_4.out (by simp; exact Ne.symm h67))
          have HA5 := hide (hk.blk HA4.out (by simp; exact ha6))
          have HK5 := hide (HK4.out.trans hk (by simp; exact hz6))
          clear hb hk HG6_4 HG7_4 HA4 HK4 d0 d1 d2 d3 d4 f0 f1 f2 f3 f4
          refine hK _ _ ⟨HA5.out.cell 0, HA5.out.cell 1, HA5.out.cell 2⟩ ?_
          clear hK K
          try simp only [Act.put, List.setIfInBounds_toArray, List.set_cons_zero, List.set_cons_succ]
          refine next_one (i := 9) (o := ⟨none, _, _, _, _, _⟩) (by kernel_rfl) rfl (by rfl) (fun K hK => ?_)
          obtain ⟨d0, d1, d2, d3, d4⟩ := Su.cell_at HG7_5.out
          have f0 := HG7_5.out.frozen 0
          have f1 := HG7_5.out.frozen 1
          have f2 := HG7_5.out.frozen 2
          have f3 := HG7_5.out.frozen 3
          have f4 := HG7_5.out.frozen 4
          have hb := Su.put_at T.k T.s T.l T.i T.m HG7_5.out
          have hk := Su.put_kept (S := [g7]) (g := g7) T.k T.s T.l T.i T.m (Kept.refl [g7] V5) (.inl (by simp))
          go_simp
          generalize (((((V5.setCell ⟨g7, 0, none⟩ (.int .i64 T.k)).setCell ⟨g7, 1, none⟩ (.int .i64 T.s)).setCell ⟨g7, 2, none⟩ (.int .i64 T.l)).setCell ⟨g7, 3, none⟩ (.int .i64 T.i)).setCell ⟨g7, 4, none⟩ (.int .i64 T.m)) = V6 at hb hk ⊢
          have HG7_6 := hide hb
          have HG6_6 := hide (hk.blk HG6_5.out (by simp; exact h67))
          have HA6 := hide (hk.blk HA5.out (by simp; exact ha7))
          have HK6 := hide (HK5.out.trans hk (by simp; exact hz7))
          clear hb hk HG6_5 HG7_5 HA5 HK5 d0 d1 d2 d3 d4 f0 f1 f2 f3 f4
          refine hK _ _ ⟨HA6.out.cell 0, HA6.out.cell 1, HA6.out.cell 2⟩ ?_
          clear hK K
          try simp only [Act.put, List.setIfInBounds_toArray, List.set_cons_zero, List.set_cons_succ]
          refine wpAnyH_done (by kernel_rfl) ?_ _
          refine NoPanic.normal ?_
          go_wp2_with fail
          go_meet
          exact ⟨S, T, g6, g7, rfl, rfl, HMS, HMT, HK6, HG6_6, HG7_6⟩
      · go_simp
        have hb : Blk (V1.alloc (.cells #[.int .i64 0, .int .i64 0, .int .i64 0, .int .i64 0, .int .i64 0] 25)) V1.heap.size 25 Su.zero.cells := Blk.new V1 _ _
        have hk : Kept [] V1 (V1.alloc (.cells #[.int .i64 0, .int .i64 0, .int .i64 0, .int .i64 0, .int .i64 0] 25)) := (Kept.refl [] V1).alloc _
        obtain ⟨g7, hg⟩ : ∃ g7, V1.heap.size = g7 := ⟨_, rfl⟩
        have ha7 : a ≠ g7 := by have := HA1.out.lt; omega
        have hz7 : w.heap.size ≤ g7 := by have := HK1.out.size; omega
        rw [hg] at hb ⊢
        generalize V1.alloc (.cells #[.int .i64 0, .int .i64 0, .int .i64 0, .int .i64 0, .int .i64 0] 25) = V2 at hb hk ⊢
        have HG7_2 := hide hb
        clear hb hg
        have HK2 := hide (HK1.out.trans hk (by simp))
        have HA2 := hide (hk.blk HA1.out (by simp))
        clear hk HK1 HA1
        refine hK _ _ ⟨HA2.out.cell 0, HA2.out.cell 1, HA2.out.cell 2⟩ ?_
        clear hK K
        try simp only [Act.put, List.setIfInBounds_toArray, List.set_cons_zero, List.set_cons_succ]
        refine next_two (i := 5) (j := 6) (o := ⟨some 23, _, _, _, _, _⟩) (o' := ⟨some 9, _, _, _, _, _⟩) (by kernel_rfl) rfl (by rfl) rfl (by rfl) (fun K hK => ?_) (fun K hK => ?_)
        · go_simp
          refine (made_any x y z 2 m2 _).mono ?_
          rintro e V3 ⟨T, rfl, hmT, hk⟩
          unfold Su.val
          have HMT := hide hmT
          clear hmT
          have HK3 := hide (HK2.out.trans hk (by simp))
          have HA3 := hide (hk.blk HA2.out (by simp))
          have HG7_3 := hide (hk.blk HG7_2.out (by simp))
          clear hk HK2 HA2 HG7_2
          refine hK _ _ ⟨HA3.out.cell 0, HA3.out.cell 1, HA3.out.cell 2⟩ ?_
          clear hK K
          try simp only [Act.put, List.setIfInBounds_toArray, List.set_cons_zero, List.set_cons_succ]
          refine next_one (i := 6) (o := ⟨some 9, _, _, _, _, _⟩) (by kernel_rfl) rfl (by rfl) (fun K hK => ?_)
          go_simp
          have hb : Blk (V3.alloc (.cells #[.int .i64 0, .int .i64 0, .int .i64 0, .int .i64 0, .int .i64 0] 25)) V3.heap.size 25 Su.zero.cells := Blk.new V3 _ _
          have hk : Kept [] V3 (V3.alloc (.cells #[.int .i64 0, .int .i64 0, .int .i64 0, .int .i64 0, .int .i64 0] 25)) := (Kept.refl [] V3).alloc _
          obtain ⟨g6, hg⟩ : ∃ g6, V3.heap.size = g6 := ⟨_, rfl⟩
          have ha6 : a ≠ g6 := by have := HA3.out.lt; omega
          have hz6 : w.heap.size ≤ g6 := by have := HK3.out.size; omega
          have h67 : g6 ≠ g7 := by have := HG7_3.out.lt; omega
          rw [hg] at hb ⊢
          generalize V3.alloc (.cells #[.int .i64 0, .int .i64 0, .int .i64 0, .int .i64 0, .int .i64 0] 25) = V4 at hb hk ⊢
          have HG6_4 := hide hb
          clear hb hg
          have HK4 := hide (HK3.out.trans hk (by simp))
          have HA4 := hide (hk.blk HA3.out (by simp))
          have HG7_4 := hide (hk.blk HG7_3.out (by simp))
          clear hk HK3 HA3 HG7_3
          refine hK _ _ ⟨HA4.out.cell 0, HA4.out.cell 1, HA4.out.cell 2⟩ ?_
          clear hK K
          try simp only [Act.put, List.setIfInBounds_toArray, List.set_cons_zero, List.set_cons_succ]
          refine next_one (i := 8) (o := ⟨none, _, _, _, _, _⟩) (by kernel_rfl) rfl (by rfl) (fun K hK => ?_)
          obtain ⟨d0, d1, d2, d3, d4⟩ := Su.cell_at HG6_4.out
          have f0 := HG6_4.out.frozen 0
          have f1 := HG6_4.out.frozen 1
          have f2 := HG6_4.out.frozen 2
          have f3 := HG6_4.out.frozen 3
          have f4 := HG6_4.out.frozen 4
          have hb := Su.put_at S.k S.s S.l S.i S.m HG6_4.out
          have hk := Su.put_kept (S := [g6]) (g := g6) S.k S.s S.l S.i S.m (Kept.refl [g6] V4) (.inl (by simp))
          go_simp
          generalize (((((V4.setCell ⟨g6, 0, none⟩ (.int .i64 S.k)).setCell ⟨g6, 1, none⟩ (.int .i64 S.s)).setCell ⟨g6, 2, none⟩ (.int .i64 S.l)).setCell ⟨g6, 3, none⟩ (.int .i64 S.i)).setCell ⟨g6, 4, none⟩ (.int .i64 S.m)) = V5 at hb hk ⊢
          have HG6_5 := hide hb
          have HG7_5 := hide (hk.blk HG7_4.out (by simp; exact Ne.symm h67))
          have HA5 := hide (hk.blk HA4.out (by simp; exact ha6))
          have HK5 := hide (HK4.out.trans hk (by simp; exact hz6))
          clear hb hk HG6_4 HG7_4 HA4 HK4 d0 d1 d2 d3 d4 f0 f1 f2 f3 f4
          refine hK _ _ ⟨HA5.out.cell 0, HA5.out.cell 1, HA5.out.cell 2⟩ ?_
          clear hK K
          try simp only [Act.put, List.setIfInBounds_toArray, List.set_cons_zero, List.set_cons_succ]
          refine next_one (i := 9) (o := ⟨none, _, _, _, _, _⟩) (by kernel_rfl) rfl (by rfl) (fun K hK => ?_)
          obtain ⟨d0, d1, d2, d3, d4⟩ := Su.cell_at HG7_5.out
          have f0 := HG7_5.out.frozen 0
          have f1 := HG7_5.out.frozen 1
          have f2 := HG7_5.out.frozen 2
          have f3 := HG7_5.out.frozen 3
          have f4 := HG7_5.out.frozen 4
          have hb := Su.put_at T.k T.s T.l T.i T.m HG7_5.out
          have hk := Su.put_kept (S := [g7]) (g := g7) T.k T.s T.l T.i T.m (Kept.refl [g7] V5) (.inl (by simp))
          go_simp
          generalize (((((V5.setCell ⟨g7, 0, none⟩ (.int .i64 T.k)).setCell ⟨g7, 1, none⟩ (.int .i64 T.s)).setCell ⟨g7, 2, none⟩ (.int .i64 T.l)).setCell ⟨g7, 3, none⟩ (.int .i64 T.i)).setCell ⟨g7, 4, none⟩ (.int .i64 T.m)) = V6 at hb hk ⊢
          have HG7_6 := hide hb
          have HG6_6 := hide (hk.blk HG6_5.out (by simp; exact h67))
          have HA6 := hide (hk.blk HA5.out (by simp; exact ha7))
          have HK6 := hide (HK5.out.trans hk (by simp; exact hz7))
          clear hb hk HG6_5 HG7_5 HA5 HK5 d0 d1 d2 d3 d4 f0 f1 f2 f3 f4
          refine hK _ _ ⟨HA6.out.cell 0, HA6.out.cell 1, HA6.out.cell 2⟩ ?_
          clear hK K
          try simp only [Act.put, List.setIfInBounds_toArray, List.set_cons_zero, List.set_cons_succ]
          refine wpAnyH_done (by kernel_rfl) ?_ _
          refine NoPanic.normal ?_
          go_wp2_with fail
          go_meet
          exact ⟨S, T, g6, g7, rfl, rfl, HMS, HMT, HK6, HG6_6, HG7_6⟩
        · go_simp
          have hb : Blk (V2.alloc (.cells #[.int .i64 0, .int .i64 0, .int .i64 0, .int .i64 0, .int .i64 0] 25)) V2.heap.size 25 Su.zero.cells := Blk.new V2 _ _
          have hk : Kept [] V2 (V2.alloc (.cells #[.int .i64 0, .int .i64 0, .int .i64 0, .int .i64 0, .int .i64 0] 25)) := (Kept.refl [] V2).alloc _
          obtain ⟨g6, hg⟩ : ∃ g6, V2.heap.size = g6 := ⟨_, rfl⟩
          have ha6 : a ≠ g6 := by have := HA2.out.lt; omega
          have hz6 : w.heap.size ≤ g6 := by have := HK2.out.size; omega
          have h67 : g6 ≠ g7 := by have := HG7_2.out.lt; omega
          rw [hg] at hb ⊢
          generalize V2.alloc (.cells #[.int .i64 0, .int .i64 0, .int .i64 0, .int .i64 0, .int .i64 0] 25) = V3 at hb hk ⊢
          have HG6_3 := hide hb
          clear hb hg
          have HK3 := hide (HK2.out.trans hk (by simp))
          have HA3 := hide (hk.blk HA2.out (by simp))
          have HG7_3 := hide (hk.blk HG7_2.out (by simp))
          clear hk HK2 HA2 HG7_2
          refine hK _ _ ⟨HA3.out.cell 0, HA3.out.cell 1, HA3.out.cell 2⟩ ?_
          clear hK K
          try simp only [Act.put, List.setIfInBounds_toArray, List.set_cons_zero, List.set_cons_succ]
          refine next_one (i := 5) (o := ⟨some 23, _, _, _, _, _⟩) (by kernel_rfl) rfl (by rfl) (fun K hK => ?_)
          go_simp
          refine (made_any x y z 2 m2 _).mono ?_
          rintro e V4 ⟨T, rfl, hmT, hk⟩
          unfold Su.val
          have HMT := hide hmT
          clear hmT
          have HK4 := hide (HK3.out.trans hk (by simp))
          have HA4 := hide (hk.blk HA3.out (by simp))
          have HG7_4 := hide (hk.blk HG7_3.out (by simp))
          have HG6_4 := hide (hk.blk HG6_3.out (by simp))
          clear hk HK3 HA3 HG7_3 HG6_3
          refine hK _ _ ⟨HA4.out.cell 0, HA4.out.cell 1, HA4.out.cell 2⟩ ?_
          clear hK K
          try simp only [Act.put, List.setIfInBounds_toArray, List.set_cons_zero, List.set_cons_succ]
          refine next_one (i := 8) (o := ⟨none, _, _, _, _, _⟩) (by kernel_rfl) rfl (by rfl) (fun K hK => ?_)
          obtain ⟨d0, d1, d2, d3, d4⟩ := Su.cell_at HG6_4.out
          have f0 := HG6_4.out.frozen 0
          have f1 := HG6_4.out.frozen 1
          have f2 := HG6_4.out.frozen 2
          have f3 := HG6_4.out.frozen 3
          have f4 := HG6_4.out.frozen 4
          have hb := Su.put_at S.k S.s S.l S.i S.m HG6_4.out
          have hk := Su.put_kept (S := [g6]) (g := g6) S.k S.s S.l S.i S.m (Kept.refl [g6] V4) (.inl (by simp))
          go_simp
          generalize (((((V4.setCell ⟨g6, 0, none⟩ (.int .i64 S.k)).setCell ⟨g6, 1, none⟩ (.int .i64 S.s)).setCell ⟨g6, 2, none⟩ (.int .i64 S.l)).setCell ⟨g6, 3, none⟩ (.int .i64 S.i)).setCell ⟨g6, 4, none⟩ (.int .i64 S.m)) = V5 at hb hk ⊢
          have HG6_5 := hide hb
          have HG7_5 := hide (hk.blk HG7_4.out (by simp; exact Ne.symm h67))
          have HA5 := hide (hk.blk HA4.out (by simp; exact ha6))
          have HK5 := hide (HK4.out.trans hk (by simp; exact hz6))
          clear hb hk HG6_4 HG7_4 HA4 HK4 d0 d1 d2 d3 d4 f0 f1 f2 f3 f4
          refine hK _ _ ⟨HA5.out.cell 0, HA5.out.cell 1, HA5.out.cell 2⟩ ?_
          clear hK K
          try simp only [Act.put, List.setIfInBounds_toArray, List.set_cons_zero, List.set_cons_succ]
          refine next_one (i := 9) (o := ⟨none, _, _, _, _, _⟩) (by kernel_rfl) rfl (by rfl) (fun K hK => ?_)
          obtain ⟨d0, d1, d2, d3, d4⟩ := Su.cell_at HG7_5.out
          have f0 := HG7_5.out.frozen 0
          have f1 := HG7_5.out.frozen 1
          have f2 := HG7_5.out.frozen 2
          have f3 := HG7_5.out.frozen 3
          have f4 := HG7_5.out.frozen 4
          have hb := Su.put_at T.k T.s T.l T.i T.m HG7_5.out
          have hk := Su.put_kept (S := [g7]) (g := g7) T.k T.s T.l T.i T.m (Kept.refl [g7] V5) (.inl (by simp))
          go_simp
          generalize (((((V5.setCell ⟨g7, 0, none⟩ (.int .i64 T.k)).setCell ⟨g7, 1, none⟩ (.int .i64 T.s)).setCell ⟨g7, 2, none⟩ (.int .i64 T.l)).setCell ⟨g7, 3, none⟩ (.int .i64 T.i)).setCell ⟨g7, 4, none⟩ (.int .i64 T.m)) = V6 at hb hk ⊢
          have HG7_6 := hide hb
          have HG6_6 := hide (hk.blk HG6_5.out (by simp; exact h67))
          have HA6 := hide (hk.blk HA5.out (by simp; exact ha7))
          have HK6 := hide (HK5.out.trans hk (by simp; exact hz7))
          clear hb hk HG6_5 HG7_5 HA5 HK5 d0 d1 d2 d3 d4 f0 f1 f2 f3 f4
          refine hK _ _ ⟨HA6.out.cell 0, HA6.out.cell 1, HA6.out.cell 2⟩ ?_
          clear hK K
          try simp only [Act.put, List.setIfInBounds_toArray, List.set_cons_zero, List.set_cons_succ]
          refine wpAnyH_done (by kernel_rfl) ?_ _
          refine NoPanic.normal ?_
          go_wp2_with fail
          go_meet
          exact ⟨S, T, g6, g7, rfl, rfl, HMS, HMT, HK6, HG6_6, HG7_6⟩
    · go_simp
      have hb : Blk (V0.alloc (.cells #[.int .i64 0, .int .i64 0, .int .i64 0, .int .i64 0, .int .i64 0] 25)) V0.heap.size 25 Su.zero.cells := Blk.new V0 _ _
      have hk : Kept [] V0 (V0.alloc (.cells #[.int .i64 0, .int .i64 0, .int .i64 0, .int .i64 0, .int .i64 0] 25)) := (Kept.refl [] V0).alloc _
      obtain ⟨g6, hg⟩ : ∃ g6, V0.heap.size = g6 := ⟨_, rfl⟩
      have ha6 : a ≠ g6 := by have := HA0.out.lt; omega
      have hz6 : w.heap.size ≤ g6 := by have := HK0.out.size; omega
      rw [hg] at hb ⊢
      generalize V0.alloc (.cells #[.int .i64 0, .int .i64 0, .int .i64 0, .int .i64 0, .int .i64 0] 25) = V1 at hb hk ⊢
      have HG6_1 := hide hb
      clear hb hg
      have HK1 := hide (HK0.out.trans hk (by simp))
      have HA1 := hide (hk.blk HA0.out (by simp))
      clear hk HK0 HA0
      refine hK _ _ ⟨HA1.out.cell 0, HA1.out.cell 1, HA1.out.cell 2⟩ ?_
      clear hK K
      try simp only [Act.put, List.setIfInBounds_toArray, List.set_cons_zero, List.set_cons_succ]
      refine next_two (i := 2) (j := 7) (o := ⟨some 20, _, _, _, _, _⟩) (o' := ⟨some 10, _, _, _, _, _⟩) (by kernel_rfl) rfl (by rfl) rfl (by rfl) (fun K hK => ?_) (fun K hK => ?_)
      · go_simp
        refine (made_any x y z 1 m1 _).mono ?_
        rintro e V2 ⟨S, rfl, hmS, hk⟩
        unfold Su.val
        have HMS := hide hmS
        clear hmS
        have HK2 := hide (HK1.out.trans hk (by simp))
        have HA2 := hide (hk.blk HA1.out (by simp))
        have HG6_2 := hide (hk.blk HG6_1.out (by simp))
        clear hk HK1 HA1 HG6_1
        refine hK _ _ ⟨HA2.out.cell 0, HA2.out.cell 1, HA2.out.cell 2⟩ ?_
        clear hK K
        try simp only [Act.put, List.setIfInBounds_toArray, List.set_cons_zero, List.set_cons_succ]
        refine next_two (i := 5) (j := 7) (o := ⟨some 23, _, _, _, _, _⟩) (o' := ⟨some 10, _, _, _, _, _⟩) (by kernel_rfl) rfl (by rfl) rfl (by rfl) (fun K hK => ?_) (fun K hK => ?_)
        · go_simp
          refine (made_any x y z 2 m2 _).mono ?_
          rintro e V3 ⟨T, rfl, hmT, hk⟩
          unfold Su.val
          have HMT := hide hmT
          clear hmT
          have HK3 := hide (HK2.out.trans hk (by simp))
          have HA3 := hide (hk.blk HA2.out (by simp))
          have HG6_3 := hide (hk.blk HG6_2.out (by simp))
          clear hk HK2 HA2 HG6_2
          refine hK _ _ ⟨HA3.out.cell 0, HA3.out.cell 1, HA3.out.cell 2⟩ ?_
          clear hK K
          try simp only [Act.put, List.setIfInBounds_toArray, List.set_cons_zero, List.set_cons_succ]
          refine next_one (i := 7) (o := ⟨some 10, _, _, _, _, _⟩) (by kernel_rfl) rfl (by rfl) (fun K hK => ?_)
          go_simp
          have hb : Blk (V3.alloc (.cells #[.int .i64 0, .int .i64 0, .int .i64 0, .int .i64 0, .int .i64 0] 25)) V3.heap.size 25 Su.zero.cells := Blk.new V3 _ _
          have hk : Kept [] V3 (V3.alloc (.cells #[.int .i64 0, .int .i64 0, .int .i64 0, .int .i64 0, .int .i64 0] 25)) := (Kept.refl [] V3).alloc _
          obtain ⟨g7, hg⟩ : ∃ g7, V3.heap.size = g7 := ⟨_, rfl⟩
          have ha7 : a ≠ g7 := by have := HA3.out.lt; omega
          have hz7 : w.heap.size ≤ g7 := by have := HK3.out.size; omega
          have h67 : g6 ≠ g7 := by have := HG6_3.out.lt; omega
          rw [hg] at hb ⊢
          generalize V3.alloc (.cells #[.int .i64 0, .int .i64 0, .int .i64 0, .int .i64 0, .int .i64 0] 25) = V4 at hb hk ⊢
          have HG7_4 := hide hb
          clear hb hg
          have HK4 := hide (HK3.out.trans hk (by simp))
          have HA4 := hide (hk.blk HA3.out (by simp))
          have HG6_4 := hide (hk.blk HG6_3.out (by simp))
          clear hk HK3 HA3 HG6_3
          refine hK _ _ ⟨HA4.out.cell 0, HA4.out.cell 1, HA4.out.cell 2⟩ ?_
          clear hK K
          try simp only [Act.put, List.setIfInBounds_toArray, List.set_cons_zero, List.set_cons_succ]
          refine next_one (i := 8) (o := ⟨none, _, _, _, _, _⟩) (by kernel_rfl) rfl (by rfl) (fun K hK => ?_)
          obtain ⟨d0, d1, d2, d3, d4⟩ := Su.cell_at HG6_4.out
          have f0 := HG6_4.out.frozen 0
          have f1 := HG6_4.out.frozen 1
          have f2 := HG6_4.out.frozen 2
          have f3 := HG6_4.out.frozen 3
          have f4 := HG6_4.out.frozen 4
          have hb := Su.put_at S.k S.s S.l S.i S.m HG6_4.out
          have hk := Su.put_kept (S := [g6]) (g := g6) S.k S.s S.l S.i S.m (Kept.refl [g6] V4) (.inl (by simp))
          go_simp
          generalize (((((V4.setCell ⟨g6, 0, none⟩ (.int .i64 S.k)).setCell ⟨g6, 1, none⟩ (.int .i64 S.s)).setCell ⟨g6, 2, none⟩ (.int .i64 S.l)).setCell ⟨g6, 3, none⟩ (.int .i64 S.i)).setCell ⟨g6, 4, none⟩ (.int .i64 S.m)) = V5 at hb hk ⊢
          have HG6_5 := hide hb
          have HG7_5 := hide (hk.blk HG7_4.out (by simp; exact Ne.symm h67))
          have HA5 := hide (hk.blk HA4.out (by simp; exact ha6))
          have HK5 := hide (HK4.out.trans hk (by simp; exact hz6))
          clear hb hk HG6_4 HG7_4 HA4 HK4 d0 d1 d2 d3 d4 f0 f1 f2 f3 f4
          refine hK _ _ ⟨HA5.out.cell 0, HA5.out.cell 1, HA5.out.cell 2⟩ ?_
          clear hK K
          try simp only [Act.put, List.setIfInBounds_toArray, List.set_cons_zero, List.set_cons_succ]
          refine next_one (i := 9) (o := ⟨none, _, _, _, _, _⟩) (by kernel_rfl) rfl (by rfl) (fun K hK => ?_)
          obtain ⟨d0, d1, d2, d3, d4⟩ := Su.cell_at HG7_5.out
          have f0 := HG7_5.out.frozen 0
          have f1 := HG7_5.out.frozen 1
          have f2 := HG7_5.out.frozen 2
          have f3 := HG7_5.out.frozen 3
          have f4 := HG7_5.out.frozen 4
          have hb := Su.put_at T.k T.s T.l T.i T.m HG7_5.out
          have hk := Su.put_kept (S := [g7]) (g := g7) T.k T.s T.l T.i T.m (Kept.refl [g7] V5) (.inl (by simp))
          go_simp
          generalize (((((V5.setCell ⟨g7, 0, none⟩ (.int .i64 T.k)).setCell ⟨g7, 1, none⟩ (.int .i64 T.s)).setCell ⟨g7, 2, none⟩ (.int .i64 T.l)).setCell ⟨g7, 3, none⟩ (.int .i64 T.i)).setCell ⟨g7, 4, none⟩ (.int .i64 T.m)) = V6 at hb hk ⊢
          have HG7_6 := hide hb
          have HG6_6 := hide (hk.blk HG6_5.out (by simp; exact h67))
          have HA6 := hide (hk.blk HA5.out (by simp; exact ha7))
          have HK6 := hide (HK5.out.trans hk (by simp; exact hz7))
          clear hb hk HG6_5 HG7_5 HA5 HK5 d0 d1 d2 d3 d4 f0 f1 f2 f3 f4
          refine hK _ _ ⟨HA6.out.cell 0, HA6.out.cell 1, HA6.out.cell 2⟩ ?_
          clear hK K
          try simp only [Act.put, List.setIfInBounds_toArray, List.set_cons_zero, List.set_cons_succ]
          refine wpAnyH_done (by kernel_rfl) ?_ _
          refine NoPanic.normal ?_
          go_wp2_with fail
          go_meet
          exact ⟨S, T, g6, g7, rfl, rfl, HMS, HMT, HK6, HG6_6, HG7_6⟩
        · go_simp
          have hb : Blk (V2.alloc (.cells #[.int .i64 0, .int .i64 0, .int .i64 0, .int .i64 0, .int .i64 0] 25)) V2.heap.size 25 Su.zero.cells := Blk.new V2 _ _
          have hk : Kept [] V2 (V2.alloc (.cells #[.int .i64 0, .int .i64 0, .int .i64 0, .int .i64 0, .int .i64 0] 25)) := (Kept.refl [] V2).alloc _
          obtain ⟨g7, hg⟩ : ∃ g7, V2.heap.size = g7 := ⟨_, rfl⟩
          have ha7 : a ≠ g7 := by have := HA2.out.lt; omega
          have hz7 : w.heap.size ≤ g7 := by have := HK2.out.size; omega
          have h67 : g6 ≠ g7 := by have := HG6_2.out.lt; omega
          rw [hg] at hb ⊢
          generalize V2.alloc (.cells #[.int .i64 0, .int .i64 0, .int .i64 0, .int .i64 0, .int .i64 0] 25) = V3 at hb hk ⊢
          have HG7_3 := hide hb
          clear hb hg
          have HK3 := hide (HK2.out.trans hk (by simp))
          have HA3 := hide (hk.blk HA2.out (by simp))
          have HG6_3 := hide (hk.blk HG6_2.out (by simp))
          clear hk HK2 HA2 HG6_2
          refine hK _ _ ⟨HA3.out.cell 0, HA3.out.cell 1, HA3.out.cell 2⟩ ?_
          clear hK K
          try simp only [Act.put, List.setIfInBounds_toArray, List.set_cons_zero, List.set_cons_succ]
          refine next_one (i := 5) (o := ⟨some 23, _, _, _, _, _⟩) (by kernel_rfl) rfl (by rfl) (fun K hK => ?_)
          go_simp
          refine (made_any x y z 2 m2 _).mono ?_
          rintro e V4 ⟨T, rfl, hmT, hk⟩
          unfold Su.val
          have HMT := hide hmT
          clear hmT
          have HK4 := hide (HK3.out.trans hk (by simp))
          have HA4 := hide (hk.blk HA3.out (by simp))
          have HG6_4 := hide (hk.blk HG6_3.out (by simp))
          have HG7_4 := hide (hk.blk HG7_3.out (by simp))
          clear hk HK3 HA3 HG6_3 HG7_3
          refine hK _ _ ⟨HA4.out.cell 0, HA4.out.cell 1, HA4.out.cell 2⟩ ?_
          clear hK K
          try simp only [Act.put, List.setIfInBounds_toArray, List.set_cons_zero, List.set_cons_succ]
          refine next_one (i := 8) (o := ⟨none, _, _, _, _, _⟩) (by kernel_rfl) rfl (by rfl) (fun K hK => ?_)
          obtain ⟨d0, d1, d2, d3, d4⟩ := Su.cell_at HG6_4.out
          have f0 := HG6_4.out.frozen 0
          have f1 := HG6_4.out.frozen 1
          have f2 := HG6_4.out.frozen 2
          have f3 := HG6_4.out.frozen 3
          have f4 := HG6_4.out.frozen 4
          have hb := Su.put_at S.k S.s S.l S.i S.m HG6_4.out
          have hk := Su.put_kept (S := [g6]) (g := g6) S.k S.s S.l S.i S.m (Kept.refl [g6] V4) (.inl (by simp))
          go_simp
          generalize (((((V4.setCell ⟨g6, 0, none⟩ (.int .i64 S.k)).setCell ⟨g6, 1, none⟩ (.int .i64 S.s)).setCell ⟨g6, 2, none⟩ (.int .i64 S.l)).setCell ⟨g6, 3, none⟩ (.int .i64 S.i)).setCell ⟨g6, 4, none⟩ (.int .i64 S.m)) = V5 at hb hk ⊢
          have HG6_5 := hide hb
          have HG7_5 := hide (hk.blk HG7_4.out (by simp; exact Ne.symm h67))
          have HA5 := hide (hk.blk HA4.out (by simp; exact ha6))
          have HK5 := hide (HK4.out.trans hk (by simp; exact hz6))
          clear hb hk HG6_4 HG7_4 HA4 HK4 d0 d1 d2 d3 d4 f0 f1 f2 f3 f4
          refine hK _ _ ⟨HA5.out.cell 0, HA5.out.cell 1, HA5.out.cell 2⟩ ?_
          clear hK K
          try simp only [Act.put, List.setIfInBounds_toArray, List.set_cons_zero, List.set_cons_succ]
          refine next_one (i := 9) (o := ⟨none, _, _, _, _, _⟩) (by kernel_rfl) rfl (by rfl) (fun K hK => ?_)
          obtain ⟨d0, d1, d2, d3, d4⟩ := Su.cell_at HG7_5.out
          have f0 := HG7_5.out.frozen 0
          have f1 := HG7_5.out.frozen 1
          have f2 := HG7_5.out.frozen 2
          have f3 := HG7_5.out.frozen 3
          have f4 := HG7_5.out.frozen 4
          have hb := Su.put_at T.k T.s T.l T.i T.m HG7_5.out
          have hk := Su.put_kept (S := [g7]) (g := g7) T.k T.s T.l T.i T.m (Kept.refl [g7] V5) (.inl (by simp))
          go_simp
          generalize (((((V5.setCell ⟨g7, 0, none⟩ (.int .i64 T.k)).setCell ⟨g7, 1, none⟩ (.int .i64 T.s)).setCell ⟨g7, 2, none⟩ (.int .i64 T.l)).setCell ⟨g7, 3, none⟩ (.int .i64 T.i)).setCell ⟨g7, 4, none⟩ (.int .i64 T.m)) = V6 at hb hk ⊢
          have HG7_6 := hide hb
          have HG6_6 := hide (hk.blk HG6_5.out (by simp; exact h67))
          have HA6 := hide (hk.blk HA5.out (by simp; exact ha7))
          have HK6 := hide (HK5.out.trans hk (by simp; exact hz7))
          clear hb hk HG6_5 HG7_5 HA5 HK5 d0 d1 d2 d3 d4 f0 f1 f2 f3 f4
          refine hK _ _ ⟨HA6.out.cell 0, HA6.out.cell 1, HA6.out.cell 2⟩ ?_
          clear hK K
          try simp only [Act.put, List.setIfInBounds_toArray, List.set_cons_zero, List.set_cons_succ]
          refine wpAnyH_done (by kernel_rfl) ?_ _
          refine NoPanic.normal ?_
          go_wp2_with fail
          go_meet
          exact ⟨S, T, g6, g7, rfl, rfl, HMS, HMT, HK6, HG6_6, HG7_6⟩
      · go_simp
        have hb : Blk (V1.alloc (.cells #[.int .i64 0, .int .i64 0, .int .i64 0, .int .i64 0, .int .i64 0] 25)) V1.heap.size 25 Su.zero.cells := Blk.new V1 _ _
        have hk : Kept [] V1 (V1.alloc (.cells #[.int .i64 0, .int .i64 0, .int .i64 0, .int .i64 0, .int .i64 0] 25)) := (Kept.refl [] V1).alloc _
        obtain ⟨g7, hg⟩ : ∃ g7, V1.heap.size = g7 := ⟨_, rfl⟩
        have ha7 : a ≠ g7 := by have := HA1.out.lt; omega
        have hz7 : w.heap.size ≤ g7 := by have := HK1.out.size; omega
        have h67 : g6 ≠ g7 := by have := HG6_1.out.lt; omega
        rw [hg] at hb ⊢
        generalize V1.alloc (.cells #[.int .i64 0, .int .i64 0, .int .i64 0, .int .i64 0, .int .i64 0] 25) = V2 at hb hk ⊢
        have HG7_2 := hide hb
        clear hb hg
        have HK2 := hide (HK1.out.trans hk (by simp))
        have HA2 := hide (hk.blk HA1.out (by simp))
        have HG6_2 := hide (hk.blk HG6_1.out (by simp))
        clear hk HK1 HA1 HG6_1
        refine hK _ _ ⟨HA2.out.cell 0, HA2.out.cell 1, HA2.out.cell 2⟩ ?_
        clear hK K
        try simp only [Act.put, List.setIfInBounds_toArray, List.set_cons_zero, List.set_cons_succ]
        refine next_one (i := 2) (o := ⟨some 20, _, _, _, _, _⟩) (by kernel_rfl) rfl (by rfl) (fun K hK => ?_)
        go_simp
        refine (made_any x y z 1 m1 _).mono ?_
        rintro e V3 ⟨S, rfl, hmS, hk⟩
        unfold Su.val
        have HMS := hide hmS
        clear hmS
        have HK3 := hide (HK2.out.trans hk (by simp))
        have HA3 := hide (hk.blk HA2.out (by simp))
        have HG6_3 := hide (hk.blk HG6_2.out (by simp))
        have HG7_3 := hide (hk.blk HG7_2.out (by simp))
        clear hk HK2 HA2 HG6_2 HG7_2
        refine hK _ _ ⟨HA3.out.cell 0, HA3.out.cell 1, HA3.out.cell 2⟩ ?_
        clear hK K
        try simp only [Act.put, List.setIfInBounds_toArray, List.set_cons_zero, List.set_cons_succ]
        refine next_one (i := 5) (o := ⟨some 23, _, _, _, _, _⟩) (by kernel_rfl) rfl (by rfl) (fun K hK => ?_)
        go_simp
        refine (made_any x y z 2 m2 _).mono ?_
        rintro e V4 ⟨T, rfl, hmT, hk⟩
        unfold Su.val
        have HMT := hide hmT
        clear hmT
        have HK4 := hide (HK3.out.trans hk (by simp))
        have HA4 := hide (hk.blk HA3.out (by simp))
        have HG6_4 := hide (hk.blk HG6_3.out (by simp))
        have HG7_4 := hide (hk.blk HG7_3.out (by simp))
        clear hk HK3 HA3 HG6_3 HG7_3
        refine hK _ _ ⟨HA4.out.cell 0, HA4.out.cell 1, HA4.out.cell 2⟩ ?_
        clear hK K
        try simp only [Act.put, List.setIfInBounds_toArray, List.set_cons_zero, List.set_cons_succ]
        refine next_one (i := 8) (o := ⟨none, _, _, _, _, _⟩) (by kernel_rfl) rfl (by rfl) (fun K hK => ?_)
        obtain ⟨d0, d1, d2, d3, d4⟩ := Su.cell_at HG6_4.out
        have f0 := HG6_4.out.frozen 0
        have f1 := HG6_4.out.frozen 1
        have f2 := HG6_4.out.frozen 2
        have f3 := HG6_4.out.frozen 3
        have f4 := HG6_4.out.frozen 4
        have hb := Su.put_at S.k S.s S.l S.i S.m HG6_4.out
        have hk := Su.put_kept (S := [g6]) (g := g6) S.k S.s S.l S.i S.m (Kept.refl [g6] V4) (.inl (by simp))
        go_simp
        generalize (((((V4.setCell ⟨g6, 0, none⟩ (.int .i64 S.k)).setCell ⟨g6, 1, none⟩ (.int .i64 S.s)).setCell ⟨g6, 2, none⟩ (.int .i64 S.l)).setCell ⟨g6, 3, none⟩ (.int .i64 S.i)).setCell ⟨g6, 4, none⟩ (.int .i64 S.m)) = V5 at hb hk ⊢
        have HG6_5 := hide hb
        have HG7_5 := hide (hk.blk HG7_4.out (by simp; exact Ne.symm h67))
        have HA5 := hide (hk.blk HA4.out (by simp; exact ha6))
        have HK5 := hide (HK4.out.trans hk (by simp; exact hz6))
        clear hb hk HG6_4 HG7_4 HA4 HK4 d0 d1 d2 d3 d4 f0 f1 f2 f3 f4
        refine hK _ _ ⟨HA5.out.cell 0, HA5.out.cell 1, HA5.out.cell 2⟩ ?_
        clear hK K
        try simp only [Act.put, List.setIfInBounds_toArray, List.set_cons_zero, List.set_cons_succ]
        refine next_one (i := 9) (o := ⟨none, _, _, _, _, _⟩) (by kernel_rfl) rfl (by rfl) (fun K hK => ?_)
        obtain ⟨d0, d1, d2, d3, d4⟩ := Su.cell_at HG7_5.out
        have f0 := HG7_5.out.frozen 0
        have f1 := HG7_5.out.frozen 1
        have f2 := HG7_5.out.frozen 2
        have f3 := HG7_5.out.frozen 3
        have f4 := HG7_5.out.frozen 4
        have hb := Su.put_at T.k T.s T.l T.i T.m HG7_5.out
        have hk := Su.put_kept (S := [g7]) (g := g7) T.k T.s T.l T.i T.m (Kept.refl [g7] V5) (.inl (by simp))
        go_simp
        generalize (((((V5.setCell ⟨g7, 0, none⟩ (.int .i64 T.k)).setCell ⟨g7, 1, none⟩ (.int .i64 T.s)).setCell ⟨g7, 2, none⟩ (.int .i64 T.l)).setCell ⟨g7, 3, none⟩ (.int .i64 T.i)).setCell ⟨g7, 4, none⟩ (.int .i64 T.m)) = V6 at hb hk ⊢
        have HG7_6 := hide hb
        have HG6_6 := hide (hk.blk HG6_5.out (by simp; exact h67))
        have HA6 := hide (hk.blk HA5.out (by simp; exact ha7))
        have HK6 := hide (HK5.out.trans hk (by simp; exact hz7))
        clear hb hk HG6_5 HG7_5 HA5 HK5 d0 d1 d2 d3 d4 f0 f1 f2 f3 f4
        refine hK _ _ ⟨HA6.out.cell 0, HA6.out.cell 1, HA6.out.cell 2⟩ ?_
        clear hK K
        try simp only [Act.put, List.setIfInBounds_toArray, List.set_cons_zero, List.set_cons_succ]
        refine wpAnyH_done (by kernel_rfl) ?_ _
        refine NoPanic.normal ?_
        go_wp2_with fail
        go_meet
        exact ⟨S, T, g6, g7, rfl, rfl, HMS, HMT, HK6, HG6_6, HG7_6⟩
    · go_simp
      have hb : Blk (V0.alloc (.cells #[.int .i64 0, .int .i64 0, .int .i64 0, .int .i64 0, .int .i64 0] 25)) V0.heap.size 25 Su.zero.cells := Blk.new V0 _ _
      have hk : Kept [] V0 (V0.alloc (.cells #[.int .i64 0, .int .i64 0, .int .i64 0, .int .i64 0, .int .i64 0] 25)) := (Kept.refl [] V0).alloc _
      obtain ⟨g7, hg⟩ : ∃ g7, V0.heap.size = g7 := ⟨_, rfl⟩
      have ha7 : a ≠ g7 := by have := HA0.out.lt; omega
      have hz7 : w.heap.size ≤ g7 := by have := HK0.out.size; omega
      rw [hg] at hb ⊢
      generalize V0.alloc (.cells #[.int .i64 0, .int .i64 0, .int .i64 0, .int .i64 0, .int .i64 0] 25) = V1 at hb hk ⊢
      have HG7_1 := hide hb
      clear hb hg
      have HK1 := hide (HK0.out.trans hk (by simp))
      have HA1 := hide (hk.blk HA0.out (by simp))
      clear hk HK0 HA0
      refine hK _ _ ⟨HA1.out.cell 0, HA1.out.cell 1, HA1.out.cell 2⟩ ?_
      clear hK K
      try simp only [Act.put, List.setIfInBounds_toArray, List.set_cons_zero, List.set_cons_succ]
      refine next_two (i := 2) (j := 6) (o := ⟨some 20, _, _, _, _, _⟩) (o' := ⟨some 9, _, _, _, _, _⟩) (by kernel_rfl) rfl (by rfl) rfl (by rfl) (fun K hK => ?_) (fun K hK => ?_)
      · go_simp
        refine (made_any x y z 1 m1 _).mono ?_
        rintro e V2 ⟨S, rfl, hmS, hk⟩
        unfold Su.val
        have HMS := hide hmS
        clear hmS
        have HK2 := hide (HK1.out.trans hk (by simp))
        have HA2 := hide (hk.blk HA1.out (by simp))
        have HG7_2 := hide (hk.blk HG7_1.out (by simp))
        clear hk HK1 HA1 HG7_1
        refine hK _ _ ⟨HA2.out.cell 0, HA2.out.cell 1, HA2.out.cell 2⟩ ?_
        clear hK K
        try simp only [Act.put, List.setIfInBounds_toArray, List.set_cons_zero, List.set_cons_succ]
        refine next_two (i := 5) (j := 6) (o := ⟨some 23, _, _, _, _, _⟩) (o' := ⟨some 9, _, _, _, _, _⟩) (by kernel_rfl) rfl (by rfl) rfl (by rfl) (fun K hK => ?_) (fun K hK => ?_)
        · go_simp
          refine (made_any x y z 2 m2 _).mono ?_
          rintro e V3 ⟨T, rfl, hmT, hk⟩
          unfold Su.val
          have HMT := hide hmT
          clear hmT
          have HK3 := hide (HK2.out.trans hk (by simp))
          have HA3 := hide (hk.blk HA2.out (by simp))
          have HG7_3 := hide (hk.blk HG7_2.out (by simp))
          clear hk HK2 HA2 HG7_2
          refine hK _ _ ⟨HA3.out.cell 0, HA3.out.cell 1, HA3.out.cell 2⟩ ?_
          clear hK K
          try simp only [Act.put, List.setIfInBounds_toArray, List.set_cons_zero, List.set_cons_succ]
          refine next_one (i := 6) (o := ⟨some 9, _, _, _, _, _⟩) (by kernel_rfl) rfl (by rfl) (fun K hK => ?_)
          go_simp
          have hb : Blk (V3.alloc (.cells #[.int .i64 0, .int .i64 0, .int .i64 0, .int .i64 0, .int .i64 0] 25)) V3.heap.size 25 Su.zero.cells := Blk.new V3 _ _
          have hk : Kept [] V3 (V3.alloc (.cells #[.int .i64 0, .int .i64 0, .int .i64 0, .int .i64 0, .int .i64 0] 25)) := (Kept.refl [] V3).alloc _
          obtain ⟨g6, hg⟩ : ∃ g6, V3.heap.size = g6 := ⟨_, rfl⟩
          have ha6 : a ≠ g6 := by have := HA3.out.lt; omega
          have hz6 : w.heap.size ≤ g6 := by have := HK3.out.size; omega
          have h67 : g6 ≠ g7 := by have := HG7_3.out.lt; omega
          rw [hg] at hb ⊢
          generalize V3.alloc (.cells #[.int .i64 0, .int .i64 0, .int .i64 0, .int .i64 0, .int .i64 0] 25) = V4 at hb hk ⊢
          have HG6_4 := hide hb
          clear hb hg
          have HK4 := hide (HK3.out.trans hk (by simp))
          have HA4 := hide (hk.blk HA3.out (by simp))
          have HG7_4 := hide (hk.blk HG7_3.out (by simp))
          clear hk HK3 HA3 HG7_3
          refine hK _ _ ⟨HA4.out.cell 0, HA4.out.cell 1, HA4.out.cell 2⟩ ?_
          clear hK K
          try simp only [Act.put, List.setIfInBounds_toArray, List.set_cons_zero, List.set_cons_succ]
          refine next_one (i := 8) (o := ⟨none, _, _, _, _, _⟩) (by kernel_rfl) rfl (by rfl) (fun K hK => ?_)
          obtain ⟨d0, d1, d2, d3, d4⟩ := Su.cell_at HG6_4.out
          have f0 := HG6_4.out.frozen 0
          have f1 := HG6_4.out.frozen 1
          have f2 := HG6_4.out.frozen 2
          have f3 := HG6_4.out.frozen 3
          have f4 := HG6_4.out.frozen 4
          have hb := Su.put_at S.k S.s S.l S.i S.m HG6_4.out
          have hk := Su.put_kept (S := [g6]) (g := g6) S.k S.s S.l S.i S.m (Kept.refl [g6] V4) (.inl (by simp))
          go_simp
          generalize (((((V4.setCell ⟨g6, 0, none⟩ (.int .i64 S.k)).setCell ⟨g6, 1, none⟩ (.int .i64 S.s)).setCell ⟨g6, 2, none⟩ (.int .i64 S.l)).setCell ⟨g6, 3, none⟩ (.int .i64 S.i)).setCell ⟨g6, 4, none⟩ (.int .i64 S.m)) = V5 at hb hk ⊢
          have HG6_5 := hide hb
          have HG7_5 := hide (hk.blk HG7_4.out (by simp; exact Ne.symm h67))
          have HA5 := hide (hk.blk HA4.out (by simp; exact ha6))
          have HK5 := hide (HK4.out.trans hk (by simp; exact hz6))
          clear hb hk HG6_4 HG7_4 HA4 HK4 d0 d1 d2 d3 d4 f0 f1 f2 f3 f4
          refine hK _ _ ⟨HA5.out.cell 0, HA5.out.cell 1, HA5.out.cell 2⟩ ?_
          clear hK K
          try simp only [Act.put, List.setIfInBounds_toArray, List.set_cons_zero, List.set_cons_succ]
          refine next_one (i := 9) (o := ⟨none, _, _, _, _, _⟩) (by kernel_rfl) rfl (by rfl) (fun K hK => ?_)
          obtain ⟨d0, d1, d2, d3, d4⟩ := Su.cell_at HG7_5.out
          have f0 := HG7_5.out.frozen 0
          have f1 := HG7_5.out.frozen 1
          have f2 := HG7_5.out.frozen 2
          have f3 := HG7_5.out.frozen 3
          have f4 := HG7_5.out.frozen 4
          have hb := Su.put_at T.k T.s T.l T.i T.m HG7_5.out
          have hk := Su.put_kept (S := [g7]) (g := g7) T.k T.s T.l T.i T.m (Kept.refl [g7] V5) (.inl (by simp))
          go_simp
          generalize (((((V5.setCell ⟨g7, 0, none⟩ (.int .i64 T.k)).setCell ⟨g7, 1, none⟩ (.int .i64 T.s)).setCell ⟨g7, 2, none⟩ (.int .i64 T.l)).setCell ⟨g7, 3, none⟩ (.int .i64 T.i)).setCell ⟨g7, 4, none⟩ (.int .i64 T.m)) = V6 at hb hk ⊢
          have HG7_6 := hide hb
          have HG6_6 := hide (hk.blk HG6_5.out (by simp; exact h67))
          have HA6 := hide (hk.blk HA5.out (by simp; exact ha7))
          have HK6 := hide (HK5.out.trans hk (by simp; exact hz7))
          clear hb hk HG6_5 HG7_5 HA5 HK5 d0 d1 d2 d3 d4 f0 f1 f2 f3 f4
          refine hK _ _ ⟨HA6.out.cell 0, HA6.out.cell 1, HA6.out.cell 2⟩ ?_
          clear hK K
          try simp only [Act.put, List.setIfInBounds_toArray, List.set_cons_zero, List.set_cons_succ]
          refine wpAnyH_done (by kernel_rfl) ?_ _
          refine NoPanic.normal ?_
          go_wp2_with fail
          go_meet
          exact ⟨S, T, g6, g7, rfl, rfl, HMS, HMT, HK6, HG6_6, HG7_6⟩
        · go_simp
          have hb : Blk (V2.alloc (.cells #[.int .i64 0, .int .i64 0, .int .i64 0, .int .i64 0, .int .i64 0] 25)) V2.heap.size 25 Su.zero.cells := Blk.new V2 _ _
          have hk : Kept [] V2 (V2.alloc (.cells #[.int .i64 0, .int .i64 0, .int .i64 0, .int .i64 0, .int .i64 0] 25)) := (Kept.refl [] V2).alloc _
          obtain ⟨g6, hg⟩ : ∃ g6, V2.heap.size = g6 := ⟨_, rfl⟩
          have ha6 : a ≠ g6 := by have := HA2.out.lt; omega
          have hz6 : w.heap.size ≤ g6 := by have := HK2.out.size; omega
          have h67 : g6 ≠ g7 := by have := HG7_2.out.lt; omega
          rw [hg] at hb ⊢
          generalize V2.alloc (.cells #[.int .i64 0, .int .i64 0, .int .i64 0, .int .i64 0, .int .i64 0] 25) = V3 at hb hk ⊢
          have HG6_3 := hide hb
          clear hb hg
          have HK3 := hide (HK2.out.trans hk (by simp))
          have HA3 := hide (hk.blk HA2.out (by simp))
          have HG7_3 := hide (hk.blk HG7_2.out (by simp))
          clear hk HK2 HA2 HG7_2
          refine hK _ _ ⟨HA3.out.cell 0, HA3.out.cell 1, HA3.out.cell 2⟩ ?_
          clear hK K
          try simp only [Act.put, List.setIfInBounds_toArray, List.set_cons_zero, List.set_cons_succ]
          refine next_one (i := 5) (o := ⟨some 23, _, _, _, _, _⟩) (by kernel_rfl) rfl (by rfl) (fun K hK => ?_)
          go_simp
          refine (made_any x y z 2 m2 _).mono ?_
          rintro e V4 ⟨T, rfl, hmT, hk⟩
          unfold Su.val
          have HMT := hide hmT
          clear hmT
          have HK4 := hide (HK3.out.trans hk (by simp))
          have HA4 := hide (hk.blk HA3.out (by simp))
          have HG7_4 := hide (hk.blk HG7_3.out (by simp))
          have HG6_4 := hide (hk.blk HG6_3.out (by simp))
          clear hk HK3 HA3 HG7_3 HG6_3
          refine hK _ _ ⟨HA4.out.cell 0, HA4.out.cell 1, HA4.out.cell 2⟩ ?_
          clear hK K
          try simp only [Act.put, List.setIfInBounds_toArray, List.set_cons_zero, List.set_cons_succ]
          refine next_one (i := 8) (o := ⟨none, _, _, _, _, _⟩) (by kernel_rfl) rfl (by rfl) (fun K hK => ?_)
          obtain ⟨d0, d1, d2, d3, d4⟩ := Su.cell_at HG6_4.out
          have f0 := HG6_4.out.frozen 0
          have f1 := HG6_4.out.frozen 1
          have f2 := HG6_4.out.frozen 2
          have f3 := HG6_4.out.frozen 3
          have f4 := HG6_4.out.frozen 4
          have hb := Su.put_at S.k S.s S.l S.i S.m HG6_4.out
          have hk := Su.put_kept (S := [g6]) (g := g6) S.k S.s S.l S.i S.m (Kept.refl [g6] V4) (.inl (by simp))
          go_simp
          generalize (((((V4.setCell ⟨g6, 0, none⟩ (.int .i64 S.k)).setCell ⟨g6, 1, none⟩ (.int .i64 S.s)).setCell ⟨g6, 2, none⟩ (.int .i64 S.l)).setCell ⟨g6, 3, none⟩ (.int .i64 S.i)).setCell ⟨g6, 4, none⟩ (.int .i64 S.m)) = V5 at hb hk ⊢
          have HG6_5 := hide hb
          have HG7_5 := hide (hk.blk HG7_4.out (by simp; exact Ne.symm h67))
          have HA5 := hide (hk.blk HA4.out (by simp; exact ha6))
          have HK5 := hide (HK4.out.trans hk (by simp; exact hz6))
          clear hb hk HG6_4 HG7_4 HA4 HK4 d0 d1 d2 d3 d4 f0 f1 f2 f3 f4
          refine hK _ _ ⟨HA5.out.cell 0, HA5.out.cell 1, HA5.out.cell 2⟩ ?_
          clear hK K
          try simp only [Act.put, List.setIfInBounds_toArray, List.set_cons_zero, List.set_cons_succ]
          refine next_one (i := 9) (o := ⟨none, _, _, _, _, _⟩) (by kernel_rfl) rfl (by rfl) (fun K hK => ?_)
          obtain ⟨d0, d1, d2, d3, d4⟩ := Su.cell_at HG7_5.out
          have f0 := HG7_5.out.frozen 0
          have f1 := HG7_5.out.frozen 1
          have f2 := HG7_5.out.frozen 2
          have f3 := HG7_5.out.frozen 3
          have f4 := HG7_5.out.frozen 4
          have hb := Su.put_at T.k T.s T.l T.i T.m HG7_5.out
          have hk := Su.put_kept (S := [g7]) (g := g7) T.k T.s T.l T.i T.m (Kept.refl [g7] V5) (.inl (by simp))
          go_simp
          generalize (((((V5.setCell ⟨g7, 0, none⟩ (.int .i64 T.k)).setCell ⟨g7, 1, none⟩ (.int .i64 T.s)).setCell ⟨g7, 2, none⟩ (.int .i64 T.l)).setCell ⟨g7, 3, none⟩ (.int .i64 T.i)).setCell ⟨g7, 4, none⟩ (.int .i64 T.m)) = V6 at hb hk ⊢
          have HG7_6 := hide hb
          have HG6_6 := hide (hk.blk HG6_5.out (by simp; exact h67))
          have HA6 := hide (hk.blk HA5.out (by simp; exact ha7))
          have HK6 := hide (HK5.out.trans hk (by simp; exact hz7))
          clear hb hk HG6_5 HG7_5 HA5 HK5 d0 d1 d2 d3 d4 f0 f1 f2 f3 f4
          refine hK _ _ ⟨HA6.out.cell 0, HA6.out.cell 1, HA6.out.cell 2⟩ ?_
          clear hK K
          try simp only [Act.put, List.setIfInBounds_toArray, List.set_cons_zero, List.set_cons_succ]
          refine wpAnyH_done (by kernel_rfl) ?_ _
          refine NoPanic.normal ?_
          go_wp2_with fail
          go_meet
          exact ⟨S, T, g6, g7, rfl, rfl, HMS, HMT, HK6, HG6_6, HG7_6⟩
      · go_simp
        have hb : Blk (V1.alloc (.cells #[.int .i64 0, .int .i64 0, .int .i64 0, .int .i64 0, .int .i64 0] 25)) V1.heap.size 25 Su.zero.cells := Blk.new V1 _ _
        have hk : Kept [] V1 (V1.alloc (.cells #[.int .i64 0, .int .i64 0, .int .i64 0, .int .i64 0, .int .i64 0] 25)) := (Kept.refl [] V1).alloc _
        obtain ⟨g6, hg⟩ : ∃ g6, V1.heap.size = g6 := ⟨_, rfl⟩
        have ha6 : a ≠ g6 := by have := HA1.out.lt; omega
        have hz6 : w.heap.size ≤ g6 := by have := HK1.out.size; omega
        have h67 : g6 ≠ g7 := by have := HG7_1.out.lt; omega
        rw [hg] at hb ⊢
        generalize V1.alloc (.cells #[.int .i64 0, .int .i64 0, .int .i64 0, .int .i64 0, .int .i64 0] 25) = V2 at hb hk ⊢
        have HG6_2 := hide hb
        clear hb hg
        have HK2 := hide (HK1.out.trans hk (by simp))
        have HA2 := hide (hk.blk HA1.out (by simp))
        have HG7_2 := hide (hk.blk HG7_1.out (by simp))
        clear hk HK1 HA1 HG7_1
        refine hK _ _ ⟨HA2.out.cell 0, HA2.out.cell 1, HA2.out.cell 2⟩ ?_
        clear hK K
        try simp only [Act.put, List.setIfInBounds_toArray, List.set_cons_zero, List.set_cons_succ]
        refine next_one (i := 2) (o := ⟨some 20, _, _, _, _, _⟩) (by kernel_rfl) rfl (by rfl) (fun K hK => ?_)
        go_simp
        refine (made_any x y z 1 m1 _).mono ?_
        rintro e V3 ⟨S, rfl, hmS, hk⟩
        unfold Su.val
        have HMS := hide hmS
        clear hmS
        have HK3 := hide (HK2.out.trans hk (by simp))
        have HA3 := hide (hk.blk HA2.out (by simp))
        have HG7_3 := hide (hk.blk HG7_2.out (by simp))
        have HG6_3 := hide (hk.blk HG6_2.out (by simp))
        clear hk HK2 HA2 HG7_2 HG6_2
        refine hK _ _ ⟨HA3.out.cell 0, HA3.out.cell 1, HA3.out.cell 2⟩ ?_
        clear hK K
        try simp only [Act.put, List.setIfInBounds_toArray, List.set_cons_zero, List.set_cons_succ]
        refine next_one (i := 5) (o := ⟨some 23, _, _, _, _, _⟩) (by kernel_rfl) rfl (by rfl) (fun K hK => ?_)
        go_simp
        refine (made_any x y z 2 m2 _).mono ?_
        rintro e V4 ⟨T, rfl, hmT, hk⟩
        unfold Su.val
        have HMT := hide hmT
        clear hmT
        have HK4 := hide (HK3.out.trans hk (by simp))
        have HA4 := hide (hk.blk HA3.out (by simp))
        have HG7_4 := hide (hk.blk HG7_3.out (by simp))
        have HG6_4 := hide (hk.blk HG6_3.out (by simp))
        clear hk HK3 HA3 HG7_3 HG6_3
        refine hK _ _ ⟨HA4.out.cell 0, HA4.out.cell 1, HA4.out.cell 2⟩ ?_
        clear hK K
        try simp only [Act.put, List.setIfInBounds_toArray, List.set_cons_zero, List.set_cons_succ]
        refine next_one (i := 8) (o := ⟨none, _, _, _, _, _⟩) (by kernel_rfl) rfl (by rfl) (fun K hK => ?_)
        obtain ⟨d0, d1, d2, d3, d4⟩ := Su.cell_at HG6_4.out
        have f0 := HG6_4.out.frozen 0
        have f1 := HG6_4.out.frozen 1
        have f2 := HG6_4.out.frozen 2
        have f3 := HG6_4.out.frozen 3
        have f4 := HG6_4.out.frozen 4
        have hb := Su.put_at S.k S.s S.l S.i S.m HG6_4.out
        have hk := Su.put_kept (S := [g6]) (g := g6) S.k S.s S.l S.i S.m (Kept.refl [g6] V4) (.inl (by simp))
        go_simp
        generalize (((((V4.setCell ⟨g6, 0, none⟩ (.int .i64 S.k)).setCell ⟨g6, 1, none⟩ (.int .i64 S.s)).setCell ⟨g6, 2, none⟩ (.int .i64 S.l)).setCell ⟨g6, 3, none⟩ (.int .i64 S.i)).setCell ⟨g6, 4, none⟩ (.int .i64 S.m)) = V5 at hb hk ⊢
        have HG6_5 := hide hb
        have HG7_5 := hide (hk.blk HG7_4.out (by simp; exact Ne.symm h67))
        have HA5 := hide (hk.blk HA4.out (by simp; exact ha6))
        have HK5 := hide (HK4.out.trans hk (by simp; exact hz6))
        clear hb hk HG6_4 HG7_4 HA4 HK4 d0 d1 d2 d3 d4 f0 f1 f2 f3 f4
        refine hK _ _ ⟨HA5.out.cell 0, HA5.out.cell 1, HA5.out.cell 2⟩ ?_
        clear hK K
        try simp only [Act.put, List.setIfInBounds_toArray, List.set_cons_zero, List.set_cons_succ]
        refine next_one (i := 9) (o := ⟨none, _, _, _, _, _⟩) (by kernel_rfl) rfl (by rfl) (fun K hK => ?_)
        obtain ⟨d0, d1, d2, d3, d4⟩ := Su.cell_at HG7_5.out
        have f0 := HG7_5.out.frozen 0
        have f1 := HG7_5.out.frozen 1
        have f2 := HG7_5.out.frozen 2
        have f3 := HG7_5.out.frozen 3
        have f4 := HG7_5.out.frozen 4
        have hb := Su.put_at T.k T.s T.l T.i T.m HG7_5.out
        have hk := Su.put_kept (S := [g7]) (g := g7) T.k T.s T.l T.i T.m (Kept.refl [g7] V5) (.inl (by simp))
        go_simp
        generalize (((((V5.setCell ⟨g7, 0, none⟩ (.int .i64 T.k)).setCell ⟨g7, 1, none⟩ (.int .i64 T.s)).setCell ⟨g7, 2, none⟩ (.int .i64 T.l)).setCell ⟨g7, 3, none⟩ (.int .i64 T.i)).setCell ⟨g7, 4, none⟩ (.int .i64 T.m)) = V6 at hb hk ⊢
        have HG7_6 := hide hb
        have HG6_6 := hide (hk.blk HG6_5.out (by simp; exact h67))
        have HA6 := hide (hk.blk HA5.out (by simp; exact ha7))
        have HK6 := hide (HK5.out.trans hk (by simp; exact hz7))
        clear hb hk HG6_5 HG7_5 HA5 HK5 d0 d1 d2 d3 d4 f0 f1 f2 f3 f4
        refine hK _ _ ⟨HA6.out.cell 0, HA6.out.cell 1, HA6.out.cell 2⟩ ?_
        clear hK K
        try simp only [Act.put, List.setIfInBounds_toArray, List.set_cons_zero, List.set_cons_succ]
        refine wpAnyH_done (by kernel_rfl) ?_ _
        refine NoPanic.normal ?_
        go_wp2_with fail
        go_meet
        exact ⟨S, T, g6, g7, rfl, rfl, HMS, HMT, HK6, HG6_6, HG7_6⟩
  case rest =>
    obtain ⟨S, T, g, q, rfl, rfl, HS, HT, HK, HG, HQ⟩ := hcut
    obtain ⟨d0, d1, d2, d3, d4⟩ := Su.cell_at HG.out
    go_wp2_with fail
    refine (encode_yes S _ HS.out).mono ?_
    rintro e V2 ⟨Ax, cx, rfl, hn, hk⟩
    obtain ⟨bx, rfl, _, harr⟩ := hn.pos (by rw [S.bytes_len]; omega)
    have hgx : g ≠ bx := by have := HG.out.lt; omega
    have hqx : q ≠ bx := by have := HQ.out.lt; omega
    have hbx : w.heap.size ≤ bx := by have := HK.out.size; omega
    have hlx := harr.lt
    have HX2 := hide harr
    have HK2 := hide (HK.out.trans hk (by simp))
    have HG2 := hide (hk.blk HG.out (by simp))
    have HQ2 := hide (hk.blk HQ.out (by simp))
    clear hk hn harr HK HG HQ d0 d1 d2 d3 d4
    obtain ⟨t0, t1, t2, t3, t4⟩ := Su.cell_at HQ2.out
    go_wp2_with fail
    refine (encode_yes T _ HT.out).mono ?_
    rintro e V3 ⟨Ay, cy, rfl, hn, hk⟩
    obtain ⟨by', rfl, _, harr⟩ := hn.pos (by rw [T.bytes_len]; omega)
    have hgy : g ≠ by' := by have := HG2.out.lt; omega
    have hqy : q ≠ by' := by have := HQ2.out.lt; omega
    have hxy : bx ≠ by' := by omega
    have hby : w.heap.size ≤ by' := by have := HK2.out.size; omega
    have HY3 := hide harr
    have HX3 := hide (HX2.out.kept hk (by simp))
    have HK3 := hide (HK2.out.trans hk (by simp))
    have HG3 := hide (hk.blk HG2.out (by simp))
    have HQ3 := hide (hk.blk HQ2.out (by simp))
    clear hk hn harr hlx HK2 HG2 HQ2 HX2 t0 t1 t2 t3 t4
    have hxor : bits .xor .u8 0 1 = 1 := by decide
    obtain ⟨b1, b2, b3⟩ | ⟨b1, b2, b3⟩ | ⟨b1, b2, b3⟩ | ⟨b1, b2, b3⟩ := low2 p
    · by_cases hm : T.m > S.m
      · have HM := hide hm
        clear hm
        have HC : Hid (super.choose S.bytes T.bytes = (T, 1, 0)) := hide (choose_later S T HS.out HT.out HM.out)
        go_wp2_with fail
        refine (choose_any (some ⟨bx, 0, none⟩) (some ⟨by', 0, none⟩) 64 64 cx cy S.bytes T.bytes _ (HX3.out.vals (by simp)) S.bytes_len (by simp) (by omega) (HY3.out.vals (by simp)) T.bytes_len (by simp) (by omega)).mono ?_
        rintro e V6 ⟨rfl, hk⟩
        rw [HC.out]
        have HK6 := hide (HK3.out.trans hk (by simp))
        have hg6 := hk.blk HG3.out (by simp)
        have hq6 := hk.blk HQ3.out (by simp)
        obtain ⟨V7, hv7⟩ : ∃ V7, V6.alloc (.cells T.cells 25) = V7 := ⟨_, rfl⟩
        have hk7 : Kept [] V6 V7 := by rw [← hv7]; exact (Kept.refl [] V6).alloc _
        have hb7 : Blk V7 V6.heap.size 25 T.cells := by rw [← hv7]; exact Blk.new V6 _ _
        have HK7 := hide (HK6.out.trans hk7 (by simp))
        obtain ⟨z, hz⟩ : ∃ z, V6.heap.size = z := ⟨_, rfl⟩
        rw [hz] at hb7
        obtain ⟨s0, s1, s2, s3, s4⟩ := Su.cell_at hb7
        obtain ⟨d0, d1, d2, d3, d4⟩ := Su.cell_at (hk7.blk hg6 (by simp))
        obtain ⟨t0, t1, t2, t3, t4⟩ := Su.cell_at (hk7.blk hq6 (by simp))
        clear hk hk7 hb7 hg6 hq6
        unfold Su.cells at hv7
        unfold Su.val
        have hmm := HM.out
        go_wp2_with fail
        refine (awake_any _).mono ?_
        rintro e V8 ⟨rfl, hk⟩
        have HK8 := hide (HK7.out.trans hk (by simp))
        clear hk
        go_wp2
        go_ret
        exact ⟨rfl, HK8.out.below (by simp)⟩
      · have HM := hide hm
        clear hm
        have HC : Hid (super.choose S.bytes T.bytes = (S, 0, 0)) := hide (choose_former S T HS.out HT.out HM.out)
        go_wp2_with fail
        refine (choose_any (some ⟨bx, 0, none⟩) (some ⟨by', 0, none⟩) 64 64 cx cy S.bytes T.bytes _ (HX3.out.vals (by simp)) S.bytes_len (by simp) (by omega) (HY3.out.vals (by simp)) T.bytes_len (by simp) (by omega)).mono ?_
        rintro e V6 ⟨rfl, hk⟩
        rw [HC.out]
        have HK6 := hide (HK3.out.trans hk (by simp))
        have hg6 := hk.blk HG3.out (by simp)
        have hq6 := hk.blk HQ3.out (by simp)
        obtain ⟨V7, hv7⟩ : ∃ V7, V6.alloc (.cells S.cells 25) = V7 := ⟨_, rfl⟩
        have hk7 : Kept [] V6 V7 := by rw [← hv7]; exact (Kept.refl [] V6).alloc _
        have hb7 : Blk V7 V6.heap.size 25 S.cells := by rw [← hv7]; exact Blk.new V6 _ _
        have HK7 := hide (HK6.out.trans hk7 (by simp))
        obtain ⟨z, hz⟩ : ∃ z, V6.heap.size = z := ⟨_, rfl⟩
        rw [hz] at hb7
        obtain ⟨s0, s1, s2, s3, s4⟩ := Su.cell_at hb7
        obtain ⟨d0, d1, d2, d3, d4⟩ := Su.cell_at (hk7.blk hg6 (by simp))
        obtain ⟨t0, t1, t2, t3, t4⟩ := Su.cell_at (hk7.blk hq6 (by simp))
        clear hk hk7 hb7 hg6 hq6
        unfold Su.cells at hv7
        unfold Su.val
        have hmm := HM.out
        go_wp2_with fail
        refine (awake_any _).mono ?_
        rintro e V8 ⟨rfl, hk⟩
        have HK8 := hide (HK7.out.trans hk (by simp))
        clear hk
        go_wp2
        go_ret
        exact ⟨rfl, HK8.out.below (by simp)⟩
    · have HC : Hid (super.choose (S.bytes.set 20 1) T.bytes = (T, 1, 0)) := hide (choose_second S T HT.out)
      obtain ⟨V4, hv4⟩ : ∃ V4, V3.setCell ⟨bx, 20, none⟩ (.int .u8 1) = V4 := ⟨_, rfl⟩
      have hx20 : V3.cell? ⟨bx, 20, none⟩ = some (.int .u8 0) := HX3.out.at_ (bytes_20 S)
      have fx20 := HX3.out.frozen 20
      have hk4 : Kept [bx] V3 V4 := by rw [← hv4]; exact (Kept.refl [bx] V3).set_ (b := bx) (.inl (by simp)) 20 _
      have HX4 : Hid (Arr V4 bx cx (S.bytes.set 20 1)) := by rw [← hv4]; exact hide (HX3.out.set_ (i := 20) 1)
      have HY4 := hide (HY3.out.kept hk4 (by simp; exact Ne.symm hxy))
      have HK4 := hide (HK3.out.trans hk4 (by simp; exact hbx))
      have HG4 := hide (hk4.blk HG3.out (by simp; exact hgx))
      have HQ4 := hide (hk4.blk HQ3.out (by simp; exact hqx))
      clear hk4 HX3 HY3 HK3 HG3 HQ3
      go_wp2_with fail
      refine (choose_any (some ⟨bx, 0, none⟩) (some ⟨by', 0, none⟩) 64 64 cx cy (S.bytes.set 20 1) T.bytes _ (HX4.out.vals (by simp)) (by rw [List.length_set]; exact S.bytes_len) (by simp) (by omega) (HY4.out.vals (by simp)) T.bytes_len (by simp) (by omega)).mono ?_
      rintro e V6 ⟨rfl, hk⟩
      rw [HC.out]
      clear hx20 fx20 hv4
      have HK6 := hide (HK4.out.trans hk (by simp))
      have hg6 := hk.blk HG4.out (by simp)
      have hq6 := hk.blk HQ4.out (by simp)
      obtain ⟨V7, hv7⟩ : ∃ V7, V6.alloc (.cells T.cells 25) = V7 := ⟨_, rfl⟩
      have hk7 : Kept [] V6 V7 := by rw [← hv7]; exact (Kept.refl [] V6).alloc _
      have hb7 : Blk V7 V6.heap.size 25 T.cells := by rw [← hv7]; exact Blk.new V6 _ _
      have HK7 := hide (HK6.out.trans hk7 (by simp))
      obtain ⟨z, hz⟩ : ∃ z, V6.heap.size = z := ⟨_, rfl⟩
      rw [hz] at hb7
      obtain ⟨s0, s1, s2, s3, s4⟩ := Su.cell_at hb7
      obtain ⟨d0, d1, d2, d3, d4⟩ := Su.cell_at (hk7.blk hg6 (by simp))
      obtain ⟨t0, t1, t2, t3, t4⟩ := Su.cell_at (hk7.blk hq6 (by simp))
      clear hk hk7 hb7 hg6 hq6
      unfold Su.cells at hv7
      unfold Su.val
      go_wp2_with fail
      refine (awake_any _).mono ?_
      rintro e V8 ⟨rfl, hk⟩
      have HK8 := hide (HK7.out.trans hk (by simp))
      clear hk
      go_wp2
      go_ret
      exact ⟨rfl, HK8.out.below (by simp)⟩
    · have HC : Hid (super.choose S.bytes (T.bytes.set 20 1) = (S, 0, 0)) := hide (choose_first S T HS.out)
      obtain ⟨V5, hv5⟩ : ∃ V5, V3.setCell ⟨by', 20, none⟩ (.int .u8 1) = V5 := ⟨_, rfl⟩
      have hy20 : V3.cell? ⟨by', 20, none⟩ = some (.int .u8 0) := HY3.out.at_ (bytes_20 T)
      have fy20 := HY3.out.frozen 20
      have hk5 : Kept [by'] V3 V5 := by rw [← hv5]; exact (Kept.refl [by'] V3).set_ (b := by') (.inl (by simp)) 20 _
      have HY5 : Hid (Arr V5 by' cy (T.bytes.set 20 1)) := by rw [← hv5]; exact hide (HY3.out.set_ (i := 20) 1)
      have HX5 := hide (HX3.out.kept hk5 (by simp; exact hxy))
      have HK5 := hide (HK3.out.trans hk5 (by simp; exact hby))
      have HG5 := hide (hk5.blk HG3.out (by simp; exact hgy))
      have HQ5 := hide (hk5.blk HQ3.out (by simp; exact hqy))
      clear hk5 HX3 HY3 HK3 HG3 HQ3
      go_wp2_with fail
      refine (choose_any (some ⟨bx, 0, none⟩) (some ⟨by', 0, none⟩) 64 64 cx cy S.bytes (T.bytes.set 20 1) _ (HX5.out.vals (by simp)) S.bytes_len (by simp) (by omega) (HY5.out.vals (by simp)) (by rw [List.length_set]; exact T.bytes_len) (by simp) (by omega)).mono ?_
      rintro e V6 ⟨rfl, hk⟩
      rw [HC.out]
      clear hy20 fy20 hv5
      have HK6 := hide (HK5.out.trans hk (by simp))
      have hg6 := hk.blk HG5.out (by simp)
      have hq6 := hk.blk HQ5.out (by simp)
      obtain ⟨V7, hv7⟩ : ∃ V7, V6.alloc (.cells S.cells 25) = V7 := ⟨_, rfl⟩
      have hk7 : Kept [] V6 V7 := by rw [← hv7]; exact (Kept.refl [] V6).alloc _
      have hb7 : Blk V7 V6.heap.size 25 S.cells := by rw [← hv7]; exact Blk.new V6 _ _
      have HK7 := hide (HK6.out.trans hk7 (by simp))
      obtain ⟨z, hz⟩ : ∃ z, V6.heap.size = z := ⟨_, rfl⟩
      rw [hz] at hb7
      obtain ⟨s0, s1, s2, s3, s4⟩ := Su.cell_at hb7
      obtain ⟨d0, d1, d2, d3, d4⟩ := Su.cell_at (hk7.blk hg6 (by simp))
      obtain ⟨t0, t1, t2, t3, t4⟩ := Su.cell_at (hk7.blk hq6 (by simp))
      clear hk hk7 hb7 hg6 hq6
      unfold Su.cells at hv7
      unfold Su.val
      go_wp2_with fail
      refine (awake_any _).mono ?_
      rintro e V8 ⟨rfl, hk⟩
      have HK8 := hide (HK7.out.trans hk (by simp))
      clear hk
      go_wp2
      go_ret
      exact ⟨rfl, HK8.out.below (by simp)⟩
    · have HC : Hid (super.choose (S.bytes.set 20 1) (T.bytes.set 20 1) = (Su.zero, 0, 2)) := hide (choose_none S T)
      obtain ⟨V4, hv4⟩ : ∃ V4, V3.setCell ⟨bx, 20, none⟩ (.int .u8 1) = V4 := ⟨_, rfl⟩
      have hx20 : V3.cell? ⟨bx, 20, none⟩ = some (.int .u8 0) := HX3.out.at_ (bytes_20 S)
      have fx20 := HX3.out.frozen 20
      have hk4 : Kept [bx] V3 V4 := by rw [← hv4]; exact (Kept.refl [bx] V3).set_ (b := bx) (.inl (by simp)) 20 _
      have HX4 : Hid (Arr V4 bx cx (S.bytes.set 20 1)) := by rw [← hv4]; exact hide (HX3.out.set_ (i := 20) 1)
      have HY4 := hide (HY3.out.kept hk4 (by simp; exact Ne.symm hxy))
      have HK4 := hide (HK3.out.trans hk4 (by simp; exact hbx))
      have HG4 := hide (hk4.blk HG3.out (by simp; exact hgx))
      have HQ4 := hide (hk4.blk HQ3.out (by simp; exact hqx))
      clear hk4 HX3 HY3 HK3 HG3 HQ3
      obtain ⟨V5, hv5⟩ : ∃ V5, V4.setCell ⟨by', 20, none⟩ (.int .u8 1) = V5 := ⟨_, rfl⟩
      have hy20 : V4.cell? ⟨by', 20, none⟩ = some (.int .u8 0) := HY4.out.at_ (bytes_20 T)
      have fy20 := HY4.out.frozen 20
      have hk5 : Kept [by'] V4 V5 := by rw [← hv5]; exact (Kept.refl [by'] V4).set_ (b := by') (.inl (by simp)) 20 _
      have HY5 : Hid (Arr V5 by' cy (T.bytes.set 20 1)) := by rw [← hv5]; exact hide (HY4.out.set_ (i := 20) 1)
      have HX5 := hide (HX4.out.kept hk5 (by simp; exact hxy))
      have HK5 := hide (HK4.out.trans hk5 (by simp; exact hby))
      have HG5 := hide (hk5.blk HG4.out (by simp; exact hgy))
      have HQ5 := hide (hk5.blk HQ4.out (by simp; exact hqy))
      clear hk5 HX4 HY4 HK4 HG4 HQ4
      go_wp2_with fail
      refine (choose_any (some ⟨bx, 0, none⟩) (some ⟨by', 0, none⟩) 64 64 cx cy (S.bytes.set 20 1) (T.bytes.set 20 1) _ (HX5.out.vals (by simp)) (by rw [List.length_set]; exact S.bytes_len) (by simp) (by omega) (HY5.out.vals (by simp)) (by rw [List.length_set]; exact T.bytes_len) (by simp) (by omega)).mono ?_
      rintro e V6 ⟨rfl, hk⟩
      rw [HC.out]
      clear hx20 fx20 hv4
      clear hy20 fy20 hv5
      have HK6 := hide (HK5.out.trans hk (by simp))
      have hg6 := hk.blk HG5.out (by simp)
      have hq6 := hk.blk HQ5.out (by simp)
      have HK7 := hide (HK6.out.alloc (.cells #[.int .i64 0, .int .i64 0, .int .i64 0, .int .i64 0, .int .i64 0] 25))
      clear hk hg6 hq6
      unfold Su.val Su.zero
      dsimp only
      go_wp2_with fail
      refine (awake_any _).mono ?_
      rintro e V8 ⟨rfl, hk⟩
      have HK8 := hide (HK7.out.trans hk (by simp))
      clear hk
      go_wp2
      go_ret
      exact ⟨rfl, HK8.out.below (by simp)⟩

theorem walk (a0_0 a0_1 a0_2 : Int) (a1 : Int) (a2 : Int) (a3 : Int) (w : World) (w0_0 : (Lit.int .i64 a0_0).wf = true) (w0_1 : (Lit.int .i64 a0_1).wf = true) (w0_2 : (Lit.int .i64 a0_2).wf = true) (w1 : (Lit.int .i64 a1).wf = true) (w2 : (Lit.int .i64 a2).wf = true) (w3 : (Lit.int .i64 a3).wf = true) :
    Calls Try.prog 6 #[.agg #[.int .i64 a0_0, .int .i64 a0_1, .int .i64 a0_2], .int .i64 a1, .int .i64 a2, .int .i64 a3] w fun e w' => e = .returned (.bool true) ∧ Below w.heap.size w w' := by
  exact walk_in a0_0 a0_1 a0_2 a1 a2 a3 w

/-! ### the row's step, as the guide's skeleton has it -/
set_option maxRecDepth 100000 in
theorem lifted (os : Os) (started : os.Started) (H : Type) (enc : TypeId × Value → H) :
    ReturnsInHanded {} Try.checked os 6 .any (Rows.superChoosesSpec.pre6 enc Try.prog Try.f6 Rows.superChoosesRow.domain false) (Rows.superChoosesSpec.post enc Try.prog Try.f6 false true false false) := by
  refine returnsInHanded_of_change (C := Try.checked) own started (by kernel_rfl) Try.func6
    (ChangeSpec.witness6 (enc := enc) (C := Try.checked) false ⟨#[], #[.agg #[.int .i64 0, .int .i64 0, .int .i64 0], .int .i64 0, .int .i64 0, .int .i64 0], []⟩ 8 (by kernel_rfl) (by kernel_rfl) (by kernel_rfl) (by kernel_rfl)) ?_
  intro W base args ds gs before hval0 hW hcnd _
  have hval : ∀ (j : Nat) t v, Try.f6.params[j]? = some t → args[j]? = some v → Value.okWide Try.prog W .any base t v := hval0
  have hW' := hW
  obtain ⟨p, q, hA0, hV, rfl, hfz, hnd⟩ := hW
  have hA : DataW.TrodAll enc Try.prog W 0 (fun _ => true) true Try.f6.params.toList args.toList ds p := hA0
  rw [Try.params6] at hA hval
  obtain ⟨v0, vs0, d0, ds0, p0, q0, hargs, rfl, rfl, h0, r0⟩ := trodAll_cons hA
  obtain ⟨v1, vs1, d1, ds1, p1, q1, rfl, rfl, rfl, h1, r1⟩ := trodAll_cons r0
  obtain ⟨v2, vs2, d2, ds2, p2, q2, rfl, rfl, rfl, h2, r2⟩ := trodAll_cons r1
  obtain ⟨v3, vs3, d3, ds3, p3, q3, rfl, rfl, rfl, h3, r3⟩ := trodAll_cons r2
  obtain ⟨rfl, rfl, rfl⟩ := trodAll_nil r3
  obtain rfl : args = #[v0, v1, v2, v3] := by cases args; simp_all
  obtain ⟨rfl, rfl⟩ := trodVars_none hV
  have k0 := h0
  have lt0 : ∀ x ∈ p0, x.block < W.heap.size := by obtain ⟨m, hm⟩ := k0; exact DataW.trod_lt m _ _ _ hm
  obtain ⟨xs0, rfl, hl0, hx0⟩ := agg_ints (ts := List.replicate 3 3) (n := 3) (by kernel_rfl) (by kernel_rfl) (fun u hu => by rw [List.eq_of_mem_replicate hu]; exact Try.underlying3) (by kernel_rfl) (hval 0 40 v0 rfl rfl)
  obtain ⟨a0_0, a0_1, a0_2, rfl⟩ := list3 hl0
  have w0_0 := hx0 a0_0 (by simp)
  have w0_1 := hx0 a0_1 (by simp)
  have w0_2 := hx0 a0_2 (by simp)
  obtain ⟨a1, rfl, rfl, rfl, w1⟩ := open_int Try.underlying3 (hval 1 3 v1 rfl rfl) h1
  obtain ⟨a2, rfl, rfl, rfl, w2⟩ := open_int Try.underlying3 (hval 2 3 v2 rfl rfl) h2
  obtain ⟨a3, rfl, rfl, rfl, w3⟩ := open_int Try.underlying3 (hval 3 3 v3 rfl rfl) h3
  clear hA0 hval0
  refine (walk a0_0 a0_1 a0_2 a1 a2 a3 W w0_0 w0_1 w0_2 w1 w2 w3).mono fun e W' ⟨he, bel⟩ => ?_
  subst he
  exact ⟨_, rfl, _, _, _, [], _, [], hW', trodAll_mk1 (shut_bool Try.underlying4 _), (trodAll_cons_mk (Below.trod laidOut (by kernel_rfl) (of_decide_eq_true (by kernel_rfl)) k0 bel lt0) (trodAll_cons_mk (shut_int Try.underlying3 w1) (trodAll_cons_mk (shut_int Try.underlying3 w2) (trodAll_cons_mk (shut_int Try.underlying3 w3) trodAll_mk0)))), rfl, bel.frame _, fun h => by cases h⟩

theorem over : Rows.superChoosesRow.holds Try.pinned (OpenSpec.ofChange Rows.superChoosesSpec) :=
  OpenClaim.holds_of_wide 6 Try.f6 rfl rfl rfl rfl rfl rfl rfl ⟨rfl, rfl, rfl, rfl, rfl⟩ rfl rfl rfl rfl rfl (by kernel_rfl) Try.func6 (by kernel_rfl)
    (of_decide_eq_true (by kernel_rfl)) (by unfold Func.isWrapper; first | (rw [if_pos (by decide +kernel)]; kernel_rfl) | (rw [if_neg (by decide +kernel)]; exact ⟨rfl, rfl⟩))
    (fun os started H enc _ => lifted os started H enc)

/-- The statement. -/
theorem proved : Rows.SuperChoosesSaid := over
#print axioms proved
end Go.Proofs.Ytbglcnpkajkkpaa.superChooses

