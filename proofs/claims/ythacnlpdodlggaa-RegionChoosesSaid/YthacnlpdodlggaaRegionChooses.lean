/-
  The given statement RegionChoosesSaid is proved: whatever the arguments are, the law returns true and leaves its input as it was. No conditions.
-/
import Derived.Test.YthacnlpdodlggaaRegionTorn
import Derived.Test.YthacnlpdodlggaaShapes
import Derived.Test.YthacnlpdodlggaaFar
import Derived.Test.YthacnlpdodlggaaOrders
import Derived.Deep.CutRange
import Derived.WalkKit
import Derived.ProofKit
import Derived.OpenShut
import Derived.ShutString
import Derived.ChangeOld
import Derived.Below
namespace Go.Proofs.Ythacnlpdodlggaa.regionChooses
open Go.ChangeShapes Go.WideShapes Go.ChangeAt Go.RowKit
open Go.ChangeMaps (open_string shut_string)
open Go.Proofs.Ythacnlpdodlggaa.mem Go.Proofs.Ythacnlpdodlggaa.base Go.Proofs.Ythacnlpdodlggaa.rg
set_option linter.unusedVariables false

theorem own : ownKnob Try.prog.godebug = none := by kernel_rfl
theorem laidOut : laidOutB Try.prog = true := by kernel_rfl

theorem and_small (p : Int) (b : Nat) (hb : b < 9223372036854775808) : bits .and .i64 p (b : Int) = (((BitVec.ofInt 64 p).toNat &&& b : Nat) : Int) := by
  have hx : (BitVec.ofInt 64 p).toNat &&& b ≤ b := Nat.and_le_right
  show IntKind.i64.wrap ((BitVec.ofInt 64 p &&& BitVec.ofInt 64 (b : Int)).toNat : Int) = _
  rw [BitVec.toNat_and, row.ofInt_i64 b hb, IntKind.wrap_i64]
  omega
theorem low2 (p : Int) : (bits .and .i64 p 1 = 0 ∧ bits .and .i64 p 2 = 0 ∧ bits .and .i64 p 3 = 0) ∨ (bits .and .i64 p 1 = 1 ∧ bits .and .i64 p 2 = 0 ∧ bits .and .i64 p 3 = 1) ∨
    (bits .and .i64 p 1 = 0 ∧ bits .and .i64 p 2 = 2 ∧ bits .and .i64 p 3 = 2) ∨ (bits .and .i64 p 1 = 1 ∧ bits .and .i64 p 2 = 2 ∧ bits .and .i64 p 3 = 3) := by
  have h1 := and_small p 1 (by omega)
  have h2 := and_small p 2 (by omega)
  have h3 := and_small p 3 (by omega)
  generalize (BitVec.ofInt 64 p).toNat = n at h1 h2 h3
  have e1 : n &&& 1 = (n &&& 3) &&& 1 := by rw [Nat.and_assoc]; rfl
  have e2 : n &&& 2 = (n &&& 3) &&& 2 := by rw [Nat.and_assoc]; rfl
  have e3 : n &&& 3 = n % 4 := Nat.and_two_pow_sub_one_eq_mod n 2
  rw [e1, e3] at h1
  rw [e2, e3] at h2
  rw [e3] at h3
  have hr : n % 4 = 0 ∨ n % 4 = 1 ∨ n % 4 = 2 ∨ n % 4 = 3 := by omega
  rcases hr with e | e | e | e <;> rw [e] at h1 h2 h3
  · exact .inl ⟨h1, h2, h3⟩
  · exact .inr (.inl ⟨h1, h2, h3⟩)
  · exact .inr (.inr (.inl ⟨h1, h2, h3⟩))
  · exact .inr (.inr (.inr ⟨h1, h2, h3⟩))

set_option maxRecDepth 100000 in
set_option maxHeartbeats 8000000 in
theorem walk_in (x y z : Int) (A1 A2 : Option Addr) (n1 n2 c1 c2 : Nat) (l1 l2 : List Int) (t : Int) (w : World) (hv1 : Vals w [] A1 (l1.map I)) (hl1 : l1.length = n1) (hv2 : Vals w [] A2 (l2.map I)) (hl2 : l2.length = n2) :
    Calls Try.prog 6 #[.agg #[.int .i64 x, .int .i64 y, .int .i64 z], .slice A1 n1 c1, .slice A2 n2 c2, .int .i64 t] w fun e w' => e = .returned (.bool true) ∧ Below w.heap.size w w' := by
  have HL1 := hide hl1
  have HL2 := hide hl2
  obtain ⟨D, hd⟩ : ∃ D, dvOf x y z = D := ⟨_, rfl⟩
  have HD : Hid D.ok := hide (by rw [← hd]; exact dvOf_ok x y z)
  have HDD := hide hd
  obtain ⟨N, hN⟩ : ∃ N, 64 * D.r = N := ⟨_, rfl⟩
  obtain ⟨M, hM⟩ : ∃ M, N = M + 1 := ⟨N - 1, by have := HD.out.bd; omega⟩
  have hN256 : N ≤ 256 := by have := HD.out.bd; omega
  have hN128 : 128 ≤ N := by have := HD.out.bd; omega
  have HN := hide hN
  have HMN : Hid (M + 1 = N) := hide hM.symm
  have HMlt : Hid (M < N) := hide (by omega)
  have G2 : Hid (IntKind.i64.wrap ((N : Int) - 1) = (M : Int)) := hide (by rw [IntWalk.i64_in _ (by omega)]; omega)
  obtain ⟨w0, hw0⟩ : ∃ w0, w.alloc (.cells #[.int .i64 x, .int .i64 y, .int .i64 z] 22) = w0 := ⟨_, rfl⟩
  have hk0 : Kept [] w w0 := by rw [← hw0]; exact (Kept.refl [] w).alloc _
  have hb0 : Blk w0 w.heap.size 22 #[.int .i64 x, .int .i64 y, .int .i64 z] := by rw [← hw0]; exact Blk.new w _ _
  obtain ⟨a, ha⟩ : ∃ a, w.heap.size = a := ⟨_, rfl⟩
  rw [ha] at hb0
  have HK_0 := hide hk0
  have HA_0 := hide hb0
  have HV1_0 := hide (hv1.kept hk0 (by simp))
  have HV2_0 := hide (hv2.kept hk0 (by simp))
  have a00 : w0.cell? ⟨a, 0, none⟩ = some (.int .i64 x) := HA_0.out.cell 0
  have a01 : w0.cell? ⟨a, 1, none⟩ = some (.int .i64 y) := HA_0.out.cell 1
  have a02 : w0.cell? ⟨a, 2, none⟩ = some (.int .i64 z) := HA_0.out.cell 2
  clear hd hk0 hb0 hv1 hv2 hl1 hl2 hN hM
  go_enter Try.func6, Try.ntmps6
  go_wp2_with fail
  refine (kept_any x y z _).mono ?_
  rintro e w1 ⟨G, rfl, hg, hGb, hk⟩
  rw [HDD.out] at hg ⊢
  clear a00 a01 a02 hw0
  obtain ⟨w2, hw2⟩ : ∃ w2, w1.alloc (.cells #[.int .i64 D.b, .int .i64 (D.n : Int), .int .i64 D.z] 31) = w2 := ⟨_, rfl⟩
  have hk2 : Kept [] w1 w2 := by rw [← hw2]; exact (Kept.refl [] w1).alloc _
  have hkd := (hk.trans hk2 (by simp)).drew
  have hgd := hg.kept (hk2.drew)
  have HK_1 := hide (HK_0.out.trans hkd (by simp))
  have HA_1 := hide (hkd.blk HA_0.out (by simp))
  have HV1_1 := hide (HV1_0.out.kept hkd (by simp))
  have HV2_1 := hide (HV2_0.out.kept hkd (by simp))
  clear HK_0 HA_0 HV1_0 HV2_0 hk hk2 hkd hg hGb
  have HK_0 := HK_1
  have HA_0 := HA_1
  have HG_0 := hide hgd
  have HV1_0 := HV1_1
  have HV2_0 := HV2_1
  clear HK_1 HA_1 hgd HV1_1 HV2_1 ha
  go_wp2_with fail
  clear hw2
  go_cut [12, 13] from 29 to 34 (fun p12 p13 wx => ∃ (S T : Rg) (X Y : Sl) (g6 g7 : Nat), p12 = .pointer (some ⟨g6, 0, none⟩) ∧ p13 = .pointer (some ⟨g7, 0, none⟩) ∧ Hid (rg.Good D S) ∧ Hid (rg.Good D T) ∧ Hid X.small ∧ Hid Y.small ∧ Hid (Kept [] w wx) ∧ Hid (GD wx G D) ∧ Hid (RgIn wx [] X S) ∧ Hid (RgIn wx [] Y T) ∧ Hid (Blk wx g6 28 (S.cells X)) ∧ Hid (Blk wx g7 28 (T.cells Y)))
  case first =>
    refine wp_region_noPanic ?_
    refine wp_region_held_drew (S := fun W => W.cell? ⟨a, 0, none⟩ = some (.int .i64 x) ∧ W.cell? ⟨a, 1, none⟩ = some (.int .i64 y) ∧ W.cell? ⟨a, 2, none⟩ = some (.int .i64 z)) (by kernel_rfl) (by exact ⟨HA_0.out.cell 0, HA_0.out.cell 1, HA_0.out.cell 2⟩) (fun hHeld => ?_)
    refine wpAnyH_take (i := 0) (oi := ⟨some 29, _, _, _, _, _⟩) (v := ?v0) rfl (by kernel_rfl) (by kernel_rfl) (by kernel_rfl) (fun _ _ _ h => h) (Or.inl ⟨by rfl, ?hy0⟩) (by assumption) ?rest0
    case hy0 => (intro W hSw; (try dsimp only at hSw); go_simp; try with_reducible rfl)
    try simp only [Act.put, List.setIfInBounds_toArray, List.set_cons_zero, List.set_cons_succ]
    refine wpAnyH_take (i := 1) (oi := ⟨some 30, _, _, _, _, _⟩) (v := ?v1) rfl (by kernel_rfl) (by kernel_rfl) (by kernel_rfl) (fun _ _ _ h => h) (Or.inl ⟨by rfl, ?hy1⟩) (by assumption) ?rest1
    case hy1 => (intro W hSw; (try dsimp only at hSw); go_simp; try with_reducible rfl)
    try simp only [Act.put, List.setIfInBounds_toArray, List.set_cons_zero, List.set_cons_succ]
    refine wpAnyH_take (i := 3) (oi := ⟨some 32, _, _, _, _, _⟩) (v := ?v2) rfl (by kernel_rfl) (by kernel_rfl) (by kernel_rfl) (fun _ _ _ h => h) (Or.inl ⟨by rfl, ?hy2⟩) (by assumption) ?rest2
    case hy2 => (intro W hSw; (try dsimp only at hSw); go_simp; try with_reducible rfl)
    try simp only [Act.put, List.setIfInBounds_toArray, List.set_cons_zero, List.set_cons_succ]
    refine wpAnyH_take (i := 4) (oi := ⟨some 33, _, _, _, _, _⟩) (v := ?v3) rfl (by kernel_rfl) (by kernel_rfl) (by kernel_rfl) (fun _ _ _ h => h) (Or.inl ⟨by rfl, ?hy3⟩) (by assumption) ?rest3
    case hy3 => (intro W hSw; (try dsimp only at hSw); go_simp; try with_reducible rfl)
    try simp only [Act.put, List.setIfInBounds_toArray, List.set_cons_zero, List.set_cons_succ]
    clear hHeld
    generalize World.drew w2 = V0 at HK_0 HA_0 HG_0 HV1_0 HV2_0 ⊢
    refine next_three (i := 2) (j := 6) (l := 7) (o := ⟨some 31, _, _, _, _, _⟩) (o' := ⟨some 12, _, _, _, _, _⟩) (o'' := ⟨some 13, _, _, _, _, _⟩) (by kernel_rfl) rfl (by rfl) rfl (by rfl) rfl (by rfl) (fun K hK => ?_) (fun K hK => ?_) (fun K hK => ?_)
    · go_simp
      refine (made_any x y z A1 l1 n1 c1 1 _ HV1_0.out HL1.out).mono ?_
      rintro e V1 ⟨S, X, rfl, hgood, hX, hin, hk⟩
      rw [HDD.out] at hgood
      have HMS := hide hgood
      have HXX := hide hX
      unfold Rg.val
      have hi := hin [] (by simp)
      clear hgood hX hin
      clear HV1_0
      have HK_1 := hide (HK_0.out.trans hk (by simp))
      have HA_1 := hide (hk.blk HA_0.out (by simp))
      have HG_1 := hide (HG_0.out.kept hk)
      have HV2_1 := hide (HV2_0.out.kept hk (by simp))
      clear HK_0 HA_0 HG_0 HV2_0
      have HIS_1 := hide hi
      clear hk hi
      refine hK _ _ ⟨HA_1.out.cell 0, HA_1.out.cell 1, HA_1.out.cell 2⟩ ?_
      clear hK K
      try simp only [Act.put, List.setIfInBounds_toArray, List.set_cons_zero, List.set_cons_succ]
      refine next_three (i := 5) (j := 6) (l := 7) (o := ⟨some 34, _, _, _, _, _⟩) (o' := ⟨some 12, _, _, _, _, _⟩) (o'' := ⟨some 13, _, _, _, _, _⟩) (by kernel_rfl) rfl (by rfl) rfl (by rfl) rfl (by rfl) (fun K hK => ?_) (fun K hK => ?_) (fun K hK => ?_)
      · go_simp
        refine (made_any x y z A2 l2 n2 c2 2 _ HV2_1.out HL2.out).mono ?_
        rintro e V2 ⟨T, Y, rfl, hgood, hY, hin, hk⟩
        rw [HDD.out] at hgood
        have HMT := hide hgood
        have HYX := hide hY
        unfold Rg.val
        have hi := hin [] (by simp)
        clear hgood hY hin
        clear HV2_1
        have HK_2 := hide (HK_1.out.trans hk (by simp))
        have HA_2 := hide (hk.blk HA_1.out (by simp))
        have HG_2 := hide (HG_1.out.kept hk)
        have HIS_2 := hide (HIS_1.out.kept hk (by simp))
        clear HK_1 HA_1 HG_1 HIS_1
        have HIT_2 := hide hi
        clear hk hi
        refine hK _ _ ⟨HA_2.out.cell 0, HA_2.out.cell 1, HA_2.out.cell 2⟩ ?_
        clear hK K
        try simp only [Act.put, List.setIfInBounds_toArray, List.set_cons_zero, List.set_cons_succ]
        refine next_two (i := 6) (j := 7) (o := ⟨some 12, _, _, _, _, _⟩) (o' := ⟨some 13, _, _, _, _, _⟩) (by kernel_rfl) rfl (by rfl) rfl (by rfl) (fun K hK => ?_) (fun K hK => ?_)
        · go_simp
          have hb : Blk (V2.alloc (.cells #[.int .i64 0, .int .i64 0, .int .i64 0, .int .i64 0, .int .i64 0, .int .i64 0, .int .i64 0, .int .i64 0, .int .i64 0, .int .i64 0, .int .i64 0, .slice none 0 0, .slice none 0 0, .slice none 0 0] 28)) V2.heap.size 28 (Rg.zero.cells Sl.zero) := Blk.new V2 _ _
          have hk : Kept [] V2 (V2.alloc (.cells #[.int .i64 0, .int .i64 0, .int .i64 0, .int .i64 0, .int .i64 0, .int .i64 0, .int .i64 0, .int .i64 0, .int .i64 0, .int .i64 0, .int .i64 0, .slice none 0 0, .slice none 0 0, .slice none 0 0] 28)) := (Kept.refl [] V2).alloc _
          obtain ⟨g6, hg⟩ : ∃ g6, V2.heap.size = g6 := ⟨_, rfl⟩
          have ha6 : a ≠ g6 := by have := HA_2.out.lt; omega
          have hG6 : G ≠ g6 := by have := HG_2.out.lt; omega
          have hz6 : w.heap.size ≤ g6 := by have := HK_2.out.size; omega
          have hIS := HIS_2.out.away (S' := [g6]) (by intro i hi; simp at hi ⊢; omega)
          clear HIS_2
          have HIS_2 := hide hIS
          clear hIS
          have hIT := HIT_2.out.away (S' := [g6]) (by intro i hi; simp at hi ⊢; omega)
          clear HIT_2
          have HIT_2 := hide hIT
          clear hIT
          rw [hg] at hb ⊢
          generalize V2.alloc (.cells #[.int .i64 0, .int .i64 0, .int .i64 0, .int .i64 0, .int .i64 0, .int .i64 0, .int .i64 0, .int .i64 0, .int .i64 0, .int .i64 0, .int .i64 0, .slice none 0 0, .slice none 0 0, .slice none 0 0] 28) = V3 at hb hk ⊢
          have HK_3 := hide (HK_2.out.trans hk (by simp))
          have HA_3 := hide (hk.blk HA_2.out (by simp))
          have HG_3 := hide (HG_2.out.kept hk)
          have HIS_3 := hide (HIS_2.out.kept hk (by simp))
          have HIT_3 := hide (HIT_2.out.kept hk (by simp))
          clear HK_2 HA_2 HG_2 HIS_2 HIT_2
          have HG6_3 := hide hb
          clear hk hb hg
          refine hK _ _ ⟨HA_3.out.cell 0, HA_3.out.cell 1, HA_3.out.cell 2⟩ ?_
          clear hK K
          try simp only [Act.put, List.setIfInBounds_toArray, List.set_cons_zero, List.set_cons_succ]
          refine next_one (i := 7) (o := ⟨some 13, _, _, _, _, _⟩) (by kernel_rfl) rfl (by rfl) (fun K hK => ?_)
          go_simp
          have hb : Blk (V3.alloc (.cells #[.int .i64 0, .int .i64 0, .int .i64 0, .int .i64 0, .int .i64 0, .int .i64 0, .int .i64 0, .int .i64 0, .int .i64 0, .int .i64 0, .int .i64 0, .slice none 0 0, .slice none 0 0, .slice none 0 0] 28)) V3.heap.size 28 (Rg.zero.cells Sl.zero) := Blk.new V3 _ _
          have hk : Kept [] V3 (V3.alloc (.cells #[.int .i64 0, .int .i64 0, .int .i64 0, .int .i64 0, .int .i64 0, .int .i64 0, .int .i64 0, .int .i64 0, .int .i64 0, .int .i64 0, .int .i64 0, .slice none 0 0, .slice none 0 0, .slice none 0 0] 28)) := (Kept.refl [] V3).alloc _
          obtain ⟨g7, hg⟩ : ∃ g7, V3.heap.size = g7 := ⟨_, rfl⟩
          have ha7 : a ≠ g7 := by have := HA_3.out.lt; omega
          have hG7 : G ≠ g7 := by have := HG_3.out.lt; omega
          have hz7 : w.heap.size ≤ g7 := by have := HK_3.out.size; omega
          have h67 : g6 ≠ g7 := by have := HG6_3.out.lt; omega
          have hIS := HIS_3.out.away (S' := [g7, g6]) (by intro i hi; simp at hi ⊢; omega)
          clear HIS_3
          have HIS_3 := hide hIS
          clear hIS
          have hIT := HIT_3.out.away (S' := [g7, g6]) (by intro i hi; simp at hi ⊢; omega)
          clear HIT_3
          have HIT_3 := hide hIT
          clear hIT
          rw [hg] at hb ⊢
          generalize V3.alloc (.cells #[.int .i64 0, .int .i64 0, .int .i64 0, .int .i64 0, .int .i64 0, .int .i64 0, .int .i64 0, .int .i64 0, .int .i64 0, .int .i64 0, .int .i64 0, .slice none 0 0, .slice none 0 0, .slice none 0 0] 28) = V4 at hb hk ⊢
          have HK_4 := hide (HK_3.out.trans hk (by simp))
          have HA_4 := hide (hk.blk HA_3.out (by simp))
          have HG_4 := hide (HG_3.out.kept hk)
          have HIS_4 := hide (HIS_3.out.kept hk (by simp))
          have HIT_4 := hide (HIT_3.out.kept hk (by simp))
          have HG6_4 := hide (hk.blk HG6_3.out (by simp))
          clear HK_3 HA_3 HG_3 HIS_3 HIT_3 HG6_3
          have HG7_4 := hide hb
          clear hk hb hg
          refine hK _ _ ⟨HA_4.out.cell 0, HA_4.out.cell 1, HA_4.out.cell 2⟩ ?_
          clear hK K
          try simp only [Act.put, List.setIfInBounds_toArray, List.set_cons_zero, List.set_cons_succ]
          refine next_one (i := 8) (o := ⟨none, _, _, _, _, _⟩) (by kernel_rfl) rfl (by rfl) (fun K hK => ?_)
          obtain ⟨d0, d1, d2, d3, d4, d5, d6, d7, d8, d9, d10, d11, d12, d13⟩ := cell14 (HG6_4.out)
          have f0 := HG6_4.out.frozen 0
          have f1 := HG6_4.out.frozen 1
          have f2 := HG6_4.out.frozen 2
          have f3 := HG6_4.out.frozen 3
          have f4 := HG6_4.out.frozen 4
          have f5 := HG6_4.out.frozen 5
          have f6 := HG6_4.out.frozen 6
          have f7 := HG6_4.out.frozen 7
          have f8 := HG6_4.out.frozen 8
          have f9 := HG6_4.out.frozen 9
          have f10 := HG6_4.out.frozen 10
          have f11 := HG6_4.out.frozen 11
          have f12 := HG6_4.out.frozen 12
          have f13 := HG6_4.out.frozen 13
          have hb := put14_at S X HG6_4.out
          have hk := put14_kept (S := [g6]) (g := g6) S X (Kept.refl [g6] V4) (.inl (by simp))
          have HPE := hide (put14_eq V4 g6 S X)
          go_simp
          rw [HPE.out]
          clear HPE d0 f0 d1 f1 d2 f2 d3 f3 d4 f4 d5 f5 d6 f6 d7 f7 d8 f8 d9 f9 d10 f10 d11 f11 d12 f12 d13 f13
          generalize put14 V4 g6 S X = V5 at hb hk ⊢
          have HK_5 := hide (HK_4.out.trans hk (by simp; exact hz6))
          have HA_5 := hide (hk.blk HA_4.out (by simp; exact ha6))
          have HG_5 := hide (HG_4.out.kept hk (by simp; exact hG6))
          have HIS_5 := hide (HIS_4.out.kept hk (by simp))
          have HIT_5 := hide (HIT_4.out.kept hk (by simp))
          have HG7_5 := hide (hk.blk HG7_4.out (by simp; exact Ne.symm h67))
          clear HK_4 HA_4 HG_4 HIS_4 HIT_4 HG6_4 HG7_4
          have HG6_5 := hide hb
          clear hb hk
          refine hK _ _ ⟨HA_5.out.cell 0, HA_5.out.cell 1, HA_5.out.cell 2⟩ ?_
          clear hK K
          try simp only [Act.put, List.setIfInBounds_toArray, List.set_cons_zero, List.set_cons_succ]
          refine next_one (i := 9) (o := ⟨none, _, _, _, _, _⟩) (by kernel_rfl) rfl (by rfl) (fun K hK => ?_)
          obtain ⟨d0, d1, d2, d3, d4, d5, d6, d7, d8, d9, d10, d11, d12, d13⟩ := cell14 (HG7_5.out)
          have f0 := HG7_5.out.frozen 0
          have f1 := HG7_5.out.frozen 1
          have f2 := HG7_5.out.frozen 2
          have f3 := HG7_5.out.frozen 3
          have f4 := HG7_5.out.frozen 4
          have f5 := HG7_5.out.frozen 5
          have f6 := HG7_5.out.frozen 6
          have f7 := HG7_5.out.frozen 7
          have f8 := HG7_5.out.frozen 8
          have f9 := HG7_5.out.frozen 9
          have f10 := HG7_5.out.frozen 10
          have f11 := HG7_5.out.frozen 11
          have f12 := HG7_5.out.frozen 12
          have f13 := HG7_5.out.frozen 13
          have hb := put14_at T Y HG7_5.out
          have hk := put14_kept (S := [g7]) (g := g7) T Y (Kept.refl [g7] V5) (.inl (by simp))
          have HPE := hide (put14_eq V5 g7 T Y)
          go_simp
          rw [HPE.out]
          clear HPE d0 f0 d1 f1 d2 f2 d3 f3 d4 f4 d5 f5 d6 f6 d7 f7 d8 f8 d9 f9 d10 f10 d11 f11 d12 f12 d13 f13
          generalize put14 V5 g7 T Y = V6 at hb hk ⊢
          have HK_6 := hide (HK_5.out.trans hk (by simp; exact hz7))
          have HA_6 := hide (hk.blk HA_5.out (by simp; exact ha7))
          have HG_6 := hide (HG_5.out.kept hk (by simp; exact hG7))
          have HIS_6 := hide (HIS_5.out.kept hk (by simp))
          have HIT_6 := hide (HIT_5.out.kept hk (by simp))
          have HG6_6 := hide (hk.blk HG6_5.out (by simp; exact h67))
          clear HK_5 HA_5 HG_5 HIS_5 HIT_5 HG6_5 HG7_5
          have HG7_6 := hide hb
          clear hb hk
          refine hK _ _ ⟨HA_6.out.cell 0, HA_6.out.cell 1, HA_6.out.cell 2⟩ ?_
          clear hK K
          try simp only [Act.put, List.setIfInBounds_toArray, List.set_cons_zero, List.set_cons_succ]
          refine wpAnyH_done (by kernel_rfl) ?_ _
          refine NoPanic.normal ?_
          go_wp2_with fail
          go_meet
          exact ⟨S, T, X, Y, g6, g7, rfl, rfl, HMS, HMT, HXX, HYX, HK_6, HG_6, hide HIS_6.out.at_, hide HIT_6.out.at_, HG6_6, HG7_6⟩
        · go_simp
          have hb : Blk (V2.alloc (.cells #[.int .i64 0, .int .i64 0, .int .i64 0, .int .i64 0, .int .i64 0, .int .i64 0, .int .i64 0, .int .i64 0, .int .i64 0, .int .i64 0, .int .i64 0, .slice none 0 0, .slice none 0 0, .slice none 0 0] 28)) V2.heap.size 28 (Rg.zero.cells Sl.zero) := Blk.new V2 _ _
          have hk : Kept [] V2 (V2.alloc (.cells #[.int .i64 0, .int .i64 0, .int .i64 0, .int .i64 0, .int .i64 0, .int .i64 0, .int .i64 0, .int .i64 0, .int .i64 0, .int .i64 0, .int .i64 0, .slice none 0 0, .slice none 0 0, .slice none 0 0] 28)) := (Kept.refl [] V2).alloc _
          obtain ⟨g7, hg⟩ : ∃ g7, V2.heap.size = g7 := ⟨_, rfl⟩
          have ha7 : a ≠ g7 := by have := HA_2.out.lt; omega
          have hG7 : G ≠ g7 := by have := HG_2.out.lt; omega
          have hz7 : w.heap.size ≤ g7 := by have := HK_2.out.size; omega
          have hIS := HIS_2.out.away (S' := [g7]) (by intro i hi; simp at hi ⊢; omega)
          clear HIS_2
          have HIS_2 := hide hIS
          clear hIS
          have hIT := HIT_2.out.away (S' := [g7]) (by intro i hi; simp at hi ⊢; omega)
          clear HIT_2
          have HIT_2 := hide hIT
          clear hIT
          rw [hg] at hb ⊢
          generalize V2.alloc (.cells #[.int .i64 0, .int .i64 0, .int .i64 0, .int .i64 0, .int .i64 0, .int .i64 0, .int .i64 0, .int .i64 0, .int .i64 0, .int .i64 0, .int .i64 0, .slice none 0 0, .slice none 0 0, .slice none 0 0] 28) = V3 at hb hk ⊢
          have HK_3 := hide (HK_2.out.trans hk (by simp))
          have HA_3 := hide (hk.blk HA_2.out (by simp))
          have HG_3 := hide (HG_2.out.kept hk)
          have HIS_3 := hide (HIS_2.out.kept hk (by simp))
          have HIT_3 := hide (HIT_2.out.kept hk (by simp))
          clear HK_2 HA_2 HG_2 HIS_2 HIT_2
          have HG7_3 := hide hb
          clear hk hb hg
          refine hK _ _ ⟨HA_3.out.cell 0, HA_3.out.cell 1, HA_3.out.cell 2⟩ ?_
          clear hK K
          try simp only [Act.put, List.setIfInBounds_toArray, List.set_cons_zero, List.set_cons_succ]
          refine next_one (i := 6) (o := ⟨some 12, _, _, _, _, _⟩) (by kernel_rfl) rfl (by rfl) (fun K hK => ?_)
          go_simp
          have hb : Blk (V3.alloc (.cells #[.int .i64 0, .int .i64 0, .int .i64 0, .int .i64 0, .int .i64 0, .int .i64 0, .int .i64 0, .int .i64 0, .int .i64 0, .int .i64 0, .int .i64 0, .slice none 0 0, .slice none 0 0, .slice none 0 0] 28)) V3.heap.size 28 (Rg.zero.cells Sl.zero) := Blk.new V3 _ _
          have hk : Kept [] V3 (V3.alloc (.cells #[.int .i64 0, .int .i64 0, .int .i64 0, .int .i64 0, .int .i64 0, .int .i64 0, .int .i64 0, .int .i64 0, .int .i64 0, .int .i64 0, .int .i64 0, .slice none 0 0, .slice none 0 0, .slice none 0 0] 28)) := (Kept.refl [] V3).alloc _
          obtain ⟨g6, hg⟩ : ∃ g6, V3.heap.size = g6 := ⟨_, rfl⟩
          have ha6 : a ≠ g6 := by have := HA_3.out.lt; omega
          have hG6 : G ≠ g6 := by have := HG_3.out.lt; omega
          have hz6 : w.heap.size ≤ g6 := by have := HK_3.out.size; omega
          have h67 : g6 ≠ g7 := by have := HG7_3.out.lt; omega
          have hIS := HIS_3.out.away (S' := [g6, g7]) (by intro i hi; simp at hi ⊢; omega)
          clear HIS_3
          have HIS_3 := hide hIS
          clear hIS
          have hIT := HIT_3.out.away (S' := [g6, g7]) (by intro i hi; simp at hi ⊢; omega)
          clear HIT_3
          have HIT_3 := hide hIT
          clear hIT
          rw [hg] at hb ⊢
          generalize V3.alloc (.cells #[.int .i64 0, .int .i64 0, .int .i64 0, .int .i64 0, .int .i64 0, .int .i64 0, .int .i64 0, .int .i64 0, .int .i64 0, .int .i64 0, .int .i64 0, .slice none 0 0, .slice none 0 0, .slice none 0 0] 28) = V4 at hb hk ⊢
          have HK_4 := hide (HK_3.out.trans hk (by simp))
          have HA_4 := hide (hk.blk HA_3.out (by simp))
          have HG_4 := hide (HG_3.out.kept hk)
          have HIS_4 := hide (HIS_3.out.kept hk (by simp))
          have HIT_4 := hide (HIT_3.out.kept hk (by simp))
          have HG7_4 := hide (hk.blk HG7_3.out (by simp))
          clear HK_3 HA_3 HG_3 HIS_3 HIT_3 HG7_3
          have HG6_4 := hide hb
          clear hk hb hg
          refine hK _ _ ⟨HA_4.out.cell 0, HA_4.out.cell 1, HA_4.out.cell 2⟩ ?_
          clear hK K
          try simp only [Act.put, List.setIfInBounds_toArray, List.set_cons_zero, List.set_cons_succ]
          refine next_one (i := 8) (o := ⟨none, _, _, _, _, _⟩) (by kernel_rfl) rfl (by rfl) (fun K hK => ?_)
          obtain ⟨d0, d1, d2, d3, d4, d5, d6, d7, d8, d9, d10, d11, d12, d13⟩ := cell14 (HG6_4.out)
          have f0 := HG6_4.out.frozen 0
          have f1 := HG6_4.out.frozen 1
          have f2 := HG6_4.out.frozen 2
          have f3 := HG6_4.out.frozen 3
          have f4 := HG6_4.out.frozen 4
          have f5 := HG6_4.out.frozen 5
          have f6 := HG6_4.out.frozen 6
          have f7 := HG6_4.out.frozen 7
          have f8 := HG6_4.out.frozen 8
          have f9 := HG6_4.out.frozen 9
          have f10 := HG6_4.out.frozen 10
          have f11 := HG6_4.out.frozen 11
          have f12 := HG6_4.out.frozen 12
          have f13 := HG6_4.out.frozen 13
          have hb := put14_at S X HG6_4.out
          have hk := put14_kept (S := [g6]) (g := g6) S X (Kept.refl [g6] V4) (.inl (by simp))
          have HPE := hide (put14_eq V4 g6 S X)
          go_simp
          rw [HPE.out]
          clear HPE d0 f0 d1 f1 d2 f2 d3 f3 d4 f4 d5 f5 d6 f6 d7 f7 d8 f8 d9 f9 d10 f10 d11 f11 d12 f12 d13 f13
          generalize put14 V4 g6 S X = V5 at hb hk ⊢
          have HK_5 := hide (HK_4.out.trans hk (by simp; exact hz6))
          have HA_5 := hide (hk.blk HA_4.out (by simp; exact ha6))
          have HG_5 := hide (HG_4.out.kept hk (by simp; exact hG6))
          have HIS_5 := hide (HIS_4.out.kept hk (by simp))
          have HIT_5 := hide (HIT_4.out.kept hk (by simp))
          have HG7_5 := hide (hk.blk HG7_4.out (by simp; exact Ne.symm h67))
          clear HK_4 HA_4 HG_4 HIS_4 HIT_4 HG7_4 HG6_4
          have HG6_5 := hide hb
          clear hb hk
          refine hK _ _ ⟨HA_5.out.cell 0, HA_5.out.cell 1, HA_5.out.cell 2⟩ ?_
          clear hK K
          try simp only [Act.put, List.setIfInBounds_toArray, List.set_cons_zero, List.set_cons_succ]
          refine next_one (i := 9) (o := ⟨none, _, _, _, _, _⟩) (by kernel_rfl) rfl (by rfl) (fun K hK => ?_)
          obtain ⟨d0, d1, d2, d3, d4, d5, d6, d7, d8, d9, d10, d11, d12, d13⟩ := cell14 (HG7_5.out)
          have f0 := HG7_5.out.frozen 0
          have f1 := HG7_5.out.frozen 1
          have f2 := HG7_5.out.frozen 2
          have f3 := HG7_5.out.frozen 3
          have f4 := HG7_5.out.frozen 4
          have f5 := HG7_5.out.frozen 5
          have f6 := HG7_5.out.frozen 6
          have f7 := HG7_5.out.frozen 7
          have f8 := HG7_5.out.frozen 8
          have f9 := HG7_5.out.frozen 9
          have f10 := HG7_5.out.frozen 10
          have f11 := HG7_5.out.frozen 11
          have f12 := HG7_5.out.frozen 12
          have f13 := HG7_5.out.frozen 13
          have hb := put14_at T Y HG7_5.out
          have hk := put14_kept (S := [g7]) (g := g7) T Y (Kept.refl [g7] V5) (.inl (by simp))
          have HPE := hide (put14_eq V5 g7 T Y)
          go_simp
          rw [HPE.out]
          clear HPE d0 f0 d1 f1 d2 f2 d3 f3 d4 f4 d5 f5 d6 f6 d7 f7 d8 f8 d9 f9 d10 f10 d11 f11 d12 f12 d13 f13
          generalize put14 V5 g7 T Y = V6 at hb hk ⊢
          have HK_6 := hide (HK_5.out.trans hk (by simp; exact hz7))
          have HA_6 := hide (hk.blk HA_5.out (by simp; exact ha7))
          have HG_6 := hide (HG_5.out.kept hk (by simp; exact hG7))
          have HIS_6 := hide (HIS_5.out.kept hk (by simp))
          have HIT_6 := hide (HIT_5.out.kept hk (by simp))
          have HG6_6 := hide (hk.blk HG6_5.out (by simp; exact h67))
          clear HK_5 HA_5 HG_5 HIS_5 HIT_5 HG7_5 HG6_5
          have HG7_6 := hide hb
          clear hb hk
          refine hK _ _ ⟨HA_6.out.cell 0, HA_6.out.cell 1, HA_6.out.cell 2⟩ ?_
          clear hK K
          try simp only [Act.put, List.setIfInBounds_toArray, List.set_cons_zero, List.set_cons_succ]
          refine wpAnyH_done (by kernel_rfl) ?_ _
          refine NoPanic.normal ?_
          go_wp2_with fail
          go_meet
          exact ⟨S, T, X, Y, g6, g7, rfl, rfl, HMS, HMT, HXX, HYX, HK_6, HG_6, hide HIS_6.out.at_, hide HIT_6.out.at_, HG6_6, HG7_6⟩
      · go_simp
        have hb : Blk (V1.alloc (.cells #[.int .i64 0, .int .i64 0, .int .i64 0, .int .i64 0, .int .i64 0, .int .i64 0, .int .i64 0, .int .i64 0, .int .i64 0, .int .i64 0, .int .i64 0, .slice none 0 0, .slice none 0 0, .slice none 0 0] 28)) V1.heap.size 28 (Rg.zero.cells Sl.zero) := Blk.new V1 _ _
        have hk : Kept [] V1 (V1.alloc (.cells #[.int .i64 0, .int .i64 0, .int .i64 0, .int .i64 0, .int .i64 0, .int .i64 0, .int .i64 0, .int .i64 0, .int .i64 0, .int .i64 0, .int .i64 0, .slice none 0 0, .slice none 0 0, .slice none 0 0] 28)) := (Kept.refl [] V1).alloc _
        obtain ⟨g6, hg⟩ : ∃ g6, V1.heap.size = g6 := ⟨_, rfl⟩
        have ha6 : a ≠ g6 := by have := HA_1.out.lt; omega
        have hG6 : G ≠ g6 := by have := HG_1.out.lt; omega
        have hz6 : w.heap.size ≤ g6 := by have := HK_1.out.size; omega
        have hIS := HIS_1.out.away (S' := [g6]) (by intro i hi; simp at hi ⊢; omega)
        clear HIS_1
        have HIS_1 := hide hIS
        clear hIS
        rw [hg] at hb ⊢
        generalize V1.alloc (.cells #[.int .i64 0, .int .i64 0, .int .i64 0, .int .i64 0, .int .i64 0, .int .i64 0, .int .i64 0, .int .i64 0, .int .i64 0, .int .i64 0, .int .i64 0, .slice none 0 0, .slice none 0 0, .slice none 0 0] 28) = V2 at hb hk ⊢
        have HK_2 := hide (HK_1.out.trans hk (by simp))
        have HA_2 := hide (hk.blk HA_1.out (by simp))
        have HG_2 := hide (HG_1.out.kept hk)
        have HV2_2 := hide (HV2_1.out.kept hk (by simp))
        have HIS_2 := hide (HIS_1.out.kept hk (by simp))
        clear HK_1 HA_1 HG_1 HV2_1 HIS_1
        have HG6_2 := hide hb
        clear hk hb hg
        refine hK _ _ ⟨HA_2.out.cell 0, HA_2.out.cell 1, HA_2.out.cell 2⟩ ?_
        clear hK K
        try simp only [Act.put, List.setIfInBounds_toArray, List.set_cons_zero, List.set_cons_succ]
        refine next_two (i := 5) (j := 7) (o := ⟨some 34, _, _, _, _, _⟩) (o' := ⟨some 13, _, _, _, _, _⟩) (by kernel_rfl) rfl (by rfl) rfl (by rfl) (fun K hK => ?_) (fun K hK => ?_)
        · go_simp
          refine (made_any x y z A2 l2 n2 c2 2 _ HV2_2.out HL2.out).mono ?_
          rintro e V3 ⟨T, Y, rfl, hgood, hY, hin, hk⟩
          rw [HDD.out] at hgood
          have HMT := hide hgood
          have HYX := hide hY
          unfold Rg.val
          have hi := hin [g6] (by intro i hi; simp at hi; have := HG6_2.out.lt; omega)
          clear hgood hY hin
          clear HV2_2
          have HK_3 := hide (HK_2.out.trans hk (by simp))
          have HA_3 := hide (hk.blk HA_2.out (by simp))
          have HG_3 := hide (HG_2.out.kept hk)
          have HIS_3 := hide (HIS_2.out.kept hk (by simp))
          have HG6_3 := hide (hk.blk HG6_2.out (by simp))
          clear HK_2 HA_2 HG_2 HIS_2 HG6_2
          have HIT_3 := hide hi
          clear hk hi
          refine hK _ _ ⟨HA_3.out.cell 0, HA_3.out.cell 1, HA_3.out.cell 2⟩ ?_
          clear hK K
          try simp only [Act.put, List.setIfInBounds_toArray, List.set_cons_zero, List.set_cons_succ]
          refine next_one (i := 7) (o := ⟨some 13, _, _, _, _, _⟩) (by kernel_rfl) rfl (by rfl) (fun K hK => ?_)
          go_simp
          have hb : Blk (V3.alloc (.cells #[.int .i64 0, .int .i64 0, .int .i64 0, .int .i64 0, .int .i64 0, .int .i64 0, .int .i64 0, .int .i64 0, .int .i64 0, .int .i64 0, .int .i64 0, .slice none 0 0, .slice none 0 0, .slice none 0 0] 28)) V3.heap.size 28 (Rg.zero.cells Sl.zero) := Blk.new V3 _ _
          have hk : Kept [] V3 (V3.alloc (.cells #[.int .i64 0, .int .i64 0, .int .i64 0, .int .i64 0, .int .i64 0, .int .i64 0, .int .i64 0, .int .i64 0, .int .i64 0, .int .i64 0, .int .i64 0, .slice none 0 0, .slice none 0 0, .slice none 0 0] 28)) := (Kept.refl [] V3).alloc _
          obtain ⟨g7, hg⟩ : ∃ g7, V3.heap.size = g7 := ⟨_, rfl⟩
          have ha7 : a ≠ g7 := by have := HA_3.out.lt; omega
          have hG7 : G ≠ g7 := by have := HG_3.out.lt; omega
          have hz7 : w.heap.size ≤ g7 := by have := HK_3.out.size; omega
          have h67 : g6 ≠ g7 := by have := HG6_3.out.lt; omega
          have hIS := HIS_3.out.away (S' := [g7, g6]) (by intro i hi; simp at hi ⊢; omega)
          clear HIS_3
          have HIS_3 := hide hIS
          clear hIS
          have hIT := HIT_3.out.away (S' := [g7, g6]) (by intro i hi; simp at hi ⊢; omega)
          clear HIT_3
          have HIT_3 := hide hIT
          clear hIT
          rw [hg] at hb ⊢
          generalize V3.alloc (.cells #[.int .i64 0, .int .i64 0, .int .i64 0, .int .i64 0, .int .i64 0, .int .i64 0, .int .i64 0, .int .i64 0, .int .i64 0, .int .i64 0, .int .i64 0, .slice none 0 0, .slice none 0 0, .slice none 0 0] 28) = V4 at hb hk ⊢
          have HK_4 := hide (HK_3.out.trans hk (by simp))
          have HA_4 := hide (hk.blk HA_3.out (by simp))
          have HG_4 := hide (HG_3.out.kept hk)
          have HIS_4 := hide (HIS_3.out.kept hk (by simp))
          have HG6_4 := hide (hk.blk HG6_3.out (by simp))
          have HIT_4 := hide (HIT_3.out.kept hk (by simp))
          clear HK_3 HA_3 HG_3 HIS_3 HG6_3 HIT_3
          have HG7_4 := hide hb
          clear hk hb hg
          refine hK _ _ ⟨HA_4.out.cell 0, HA_4.out.cell 1, HA_4.out.cell 2⟩ ?_
          clear hK K
          try simp only [Act.put, List.setIfInBounds_toArray, List.set_cons_zero, List.set_cons_succ]
          refine next_one (i := 8) (o := ⟨none, _, _, _, _, _⟩) (by kernel_rfl) rfl (by rfl) (fun K hK => ?_)
          obtain ⟨d0, d1, d2, d3, d4, d5, d6, d7, d8, d9, d10, d11, d12, d13⟩ := cell14 (HG6_4.out)
          have f0 := HG6_4.out.frozen 0
          have f1 := HG6_4.out.frozen 1
          have f2 := HG6_4.out.frozen 2
          have f3 := HG6_4.out.frozen 3
          have f4 := HG6_4.out.frozen 4
          have f5 := HG6_4.out.frozen 5
          have f6 := HG6_4.out.frozen 6
          have f7 := HG6_4.out.frozen 7
          have f8 := HG6_4.out.frozen 8
          have f9 := HG6_4.out.frozen 9
          have f10 := HG6_4.out.frozen 10
          have f11 := HG6_4.out.frozen 11
          have f12 := HG6_4.out.frozen 12
          have f13 := HG6_4.out.frozen 13
          have hb := put14_at S X HG6_4.out
          have hk := put14_kept (S := [g6]) (g := g6) S X (Kept.refl [g6] V4) (.inl (by simp))
          have HPE := hide (put14_eq V4 g6 S X)
          go_simp
          rw [HPE.out]
          clear HPE d0 f0 d1 f1 d2 f2 d3 f3 d4 f4 d5 f5 d6 f6 d7 f7 d8 f8 d9 f9 d10 f10 d11 f11 d12 f12 d13 f13
          generalize put14 V4 g6 S X = V5 at hb hk ⊢
          have HK_5 := hide (HK_4.out.trans hk (by simp; exact hz6))
          have HA_5 := hide (hk.blk HA_4.out (by simp; exact ha6))
          have HG_5 := hide (HG_4.out.kept hk (by simp; exact hG6))
          have HIS_5 := hide (HIS_4.out.kept hk (by simp))
          have HIT_5 := hide (HIT_4.out.kept hk (by simp))
          have HG7_5 := hide (hk.blk HG7_4.out (by simp; exact Ne.symm h67))
          clear HK_4 HA_4 HG_4 HIS_4 HG6_4 HIT_4 HG7_4
          have HG6_5 := hide hb
          clear hb hk
          refine hK _ _ ⟨HA_5.out.cell 0, HA_5.out.cell 1, HA_5.out.cell 2⟩ ?_
          clear hK K
          try simp only [Act.put, List.setIfInBounds_toArray, List.set_cons_zero, List.set_cons_succ]
          refine next_one (i := 9) (o := ⟨none, _, _, _, _, _⟩) (by kernel_rfl) rfl (by rfl) (fun K hK => ?_)
          obtain ⟨d0, d1, d2, d3, d4, d5, d6, d7, d8, d9, d10, d11, d12, d13⟩ := cell14 (HG7_5.out)
          have f0 := HG7_5.out.frozen 0
          have f1 := HG7_5.out.frozen 1
          have f2 := HG7_5.out.frozen 2
          have f3 := HG7_5.out.frozen 3
          have f4 := HG7_5.out.frozen 4
          have f5 := HG7_5.out.frozen 5
          have f6 := HG7_5.out.frozen 6
          have f7 := HG7_5.out.frozen 7
          have f8 := HG7_5.out.frozen 8
          have f9 := HG7_5.out.frozen 9
          have f10 := HG7_5.out.frozen 10
          have f11 := HG7_5.out.frozen 11
          have f12 := HG7_5.out.frozen 12
          have f13 := HG7_5.out.frozen 13
          have hb := put14_at T Y HG7_5.out
          have hk := put14_kept (S := [g7]) (g := g7) T Y (Kept.refl [g7] V5) (.inl (by simp))
          have HPE := hide (put14_eq V5 g7 T Y)
          go_simp
          rw [HPE.out]
          clear HPE d0 f0 d1 f1 d2 f2 d3 f3 d4 f4 d5 f5 d6 f6 d7 f7 d8 f8 d9 f9 d10 f10 d11 f11 d12 f12 d13 f13
          generalize put14 V5 g7 T Y = V6 at hb hk ⊢
          have HK_6 := hide (HK_5.out.trans hk (by simp; exact hz7))
          have HA_6 := hide (hk.blk HA_5.out (by simp; exact ha7))
          have HG_6 := hide (HG_5.out.kept hk (by simp; exact hG7))
          have HIS_6 := hide (HIS_5.out.kept hk (by simp))
          have HG6_6 := hide (hk.blk HG6_5.out (by simp; exact h67))
          have HIT_6 := hide (HIT_5.out.kept hk (by simp))
          clear HK_5 HA_5 HG_5 HIS_5 HG6_5 HIT_5 HG7_5
          have HG7_6 := hide hb
          clear hb hk
          refine hK _ _ ⟨HA_6.out.cell 0, HA_6.out.cell 1, HA_6.out.cell 2⟩ ?_
          clear hK K
          try simp only [Act.put, List.setIfInBounds_toArray, List.set_cons_zero, List.set_cons_succ]
          refine wpAnyH_done (by kernel_rfl) ?_ _
          refine NoPanic.normal ?_
          go_wp2_with fail
          go_meet
          exact ⟨S, T, X, Y, g6, g7, rfl, rfl, HMS, HMT, HXX, HYX, HK_6, HG_6, hide HIS_6.out.at_, hide HIT_6.out.at_, HG6_6, HG7_6⟩
        · go_simp
          have hb : Blk (V2.alloc (.cells #[.int .i64 0, .int .i64 0, .int .i64 0, .int .i64 0, .int .i64 0, .int .i64 0, .int .i64 0, .int .i64 0, .int .i64 0, .int .i64 0, .int .i64 0, .slice none 0 0, .slice none 0 0, .slice none 0 0] 28)) V2.heap.size 28 (Rg.zero.cells Sl.zero) := Blk.new V2 _ _
          have hk : Kept [] V2 (V2.alloc (.cells #[.int .i64 0, .int .i64 0, .int .i64 0, .int .i64 0, .int .i64 0, .int .i64 0, .int .i64 0, .int .i64 0, .int .i64 0, .int .i64 0, .int .i64 0, .slice none 0 0, .slice none 0 0, .slice none 0 0] 28)) := (Kept.refl [] V2).alloc _
          obtain ⟨g7, hg⟩ : ∃ g7, V2.heap.size = g7 := ⟨_, rfl⟩
          have ha7 : a ≠ g7 := by have := HA_2.out.lt; omega
          have hG7 : G ≠ g7 := by have := HG_2.out.lt; omega
          have hz7 : w.heap.size ≤ g7 := by have := HK_2.out.size; omega
          have h67 : g6 ≠ g7 := by have := HG6_2.out.lt; omega
          have hIS := HIS_2.out.away (S' := [g7, g6]) (by intro i hi; simp at hi ⊢; omega)
          clear HIS_2
          have HIS_2 := hide hIS
          clear hIS
          rw [hg] at hb ⊢
          generalize V2.alloc (.cells #[.int .i64 0, .int .i64 0, .int .i64 0, .int .i64 0, .int .i64 0, .int .i64 0, .int .i64 0, .int .i64 0, .int .i64 0, .int .i64 0, .int .i64 0, .slice none 0 0, .slice none 0 0, .slice none 0 0] 28) = V3 at hb hk ⊢
          have HK_3 := hide (HK_2.out.trans hk (by simp))
          have HA_3 := hide (hk.blk HA_2.out (by simp))
          have HG_3 := hide (HG_2.out.kept hk)
          have HV2_3 := hide (HV2_2.out.kept hk (by simp))
          have HIS_3 := hide (HIS_2.out.kept hk (by simp))
          have HG6_3 := hide (hk.blk HG6_2.out (by simp))
          clear HK_2 HA_2 HG_2 HV2_2 HIS_2 HG6_2
          have HG7_3 := hide hb
          clear hk hb hg
          refine hK _ _ ⟨HA_3.out.cell 0, HA_3.out.cell 1, HA_3.out.cell 2⟩ ?_
          clear hK K
          try simp only [Act.put, List.setIfInBounds_toArray, List.set_cons_zero, List.set_cons_succ]
          refine next_one (i := 5) (o := ⟨some 34, _, _, _, _, _⟩) (by kernel_rfl) rfl (by rfl) (fun K hK => ?_)
          go_simp
          refine (made_any x y z A2 l2 n2 c2 2 _ HV2_3.out HL2.out).mono ?_
          rintro e V4 ⟨T, Y, rfl, hgood, hY, hin, hk⟩
          rw [HDD.out] at hgood
          have HMT := hide hgood
          have HYX := hide hY
          unfold Rg.val
          have hi := hin [g7, g6] (by intro i hi; simp at hi; have := HG6_3.out.lt; have := HG7_3.out.lt; omega)
          clear hgood hY hin
          clear HV2_3
          have HK_4 := hide (HK_3.out.trans hk (by simp))
          have HA_4 := hide (hk.blk HA_3.out (by simp))
          have HG_4 := hide (HG_3.out.kept hk)
          have HIS_4 := hide (HIS_3.out.kept hk (by simp))
          have HG6_4 := hide (hk.blk HG6_3.out (by simp))
          have HG7_4 := hide (hk.blk HG7_3.out (by simp))
          clear HK_3 HA_3 HG_3 HIS_3 HG6_3 HG7_3
          have HIT_4 := hide hi
          clear hk hi
          refine hK _ _ ⟨HA_4.out.cell 0, HA_4.out.cell 1, HA_4.out.cell 2⟩ ?_
          clear hK K
          try simp only [Act.put, List.setIfInBounds_toArray, List.set_cons_zero, List.set_cons_succ]
          refine next_one (i := 8) (o := ⟨none, _, _, _, _, _⟩) (by kernel_rfl) rfl (by rfl) (fun K hK => ?_)
          obtain ⟨d0, d1, d2, d3, d4, d5, d6, d7, d8, d9, d10, d11, d12, d13⟩ := cell14 (HG6_4.out)
          have f0 := HG6_4.out.frozen 0
          have f1 := HG6_4.out.frozen 1
          have f2 := HG6_4.out.frozen 2
          have f3 := HG6_4.out.frozen 3
          have f4 := HG6_4.out.frozen 4
          have f5 := HG6_4.out.frozen 5
          have f6 := HG6_4.out.frozen 6
          have f7 := HG6_4.out.frozen 7
          have f8 := HG6_4.out.frozen 8
          have f9 := HG6_4.out.frozen 9
          have f10 := HG6_4.out.frozen 10
          have f11 := HG6_4.out.frozen 11
          have f12 := HG6_4.out.frozen 12
          have f13 := HG6_4.out.frozen 13
          have hb := put14_at S X HG6_4.out
          have hk := put14_kept (S := [g6]) (g := g6) S X (Kept.refl [g6] V4) (.inl (by simp))
          have HPE := hide (put14_eq V4 g6 S X)
          go_simp
          rw [HPE.out]
          clear HPE d0 f0 d1 f1 d2 f2 d3 f3 d4 f4 d5 f5 d6 f6 d7 f7 d8 f8 d9 f9 d10 f10 d11 f11 d12 f12 d13 f13
          generalize put14 V4 g6 S X = V5 at hb hk ⊢
          have HK_5 := hide (HK_4.out.trans hk (by simp; exact hz6))
          have HA_5 := hide (hk.blk HA_4.out (by simp; exact ha6))
          have HG_5 := hide (HG_4.out.kept hk (by simp; exact hG6))
          have HIS_5 := hide (HIS_4.out.kept hk (by simp))
          have HG7_5 := hide (hk.blk HG7_4.out (by simp; exact Ne.symm h67))
          have HIT_5 := hide (HIT_4.out.kept hk (by simp))
          clear HK_4 HA_4 HG_4 HIS_4 HG6_4 HG7_4 HIT_4
          have HG6_5 := hide hb
          clear hb hk
          refine hK _ _ ⟨HA_5.out.cell 0, HA_5.out.cell 1, HA_5.out.cell 2⟩ ?_
          clear hK K
          try simp only [Act.put, List.setIfInBounds_toArray, List.set_cons_zero, List.set_cons_succ]
          refine next_one (i := 9) (o := ⟨none, _, _, _, _, _⟩) (by kernel_rfl) rfl (by rfl) (fun K hK => ?_)
          obtain ⟨d0, d1, d2, d3, d4, d5, d6, d7, d8, d9, d10, d11, d12, d13⟩ := cell14 (HG7_5.out)
          have f0 := HG7_5.out.frozen 0
          have f1 := HG7_5.out.frozen 1
          have f2 := HG7_5.out.frozen 2
          have f3 := HG7_5.out.frozen 3
          have f4 := HG7_5.out.frozen 4
          have f5 := HG7_5.out.frozen 5
          have f6 := HG7_5.out.frozen 6
          have f7 := HG7_5.out.frozen 7
          have f8 := HG7_5.out.frozen 8
          have f9 := HG7_5.out.frozen 9
          have f10 := HG7_5.out.frozen 10
          have f11 := HG7_5.out.frozen 11
          have f12 := HG7_5.out.frozen 12
          have f13 := HG7_5.out.frozen 13
          have hb := put14_at T Y HG7_5.out
          have hk := put14_kept (S := [g7]) (g := g7) T Y (Kept.refl [g7] V5) (.inl (by simp))
          have HPE := hide (put14_eq V5 g7 T Y)
          go_simp
          rw [HPE.out]
          clear HPE d0 f0 d1 f1 d2 f2 d3 f3 d4 f4 d5 f5 d6 f6 d7 f7 d8 f8 d9 f9 d10 f10 d11 f11 d12 f12 d13 f13
          generalize put14 V5 g7 T Y = V6 at hb hk ⊢
          have HK_6 := hide (HK_5.out.trans hk (by simp; exact hz7))
          have HA_6 := hide (hk.blk HA_5.out (by simp; exact ha7))
          have HG_6 := hide (HG_5.out.kept hk (by simp; exact hG7))
          have HIS_6 := hide (HIS_5.out.kept hk (by simp))
          have HG6_6 := hide (hk.blk HG6_5.out (by simp; exact h67))
          have HIT_6 := hide (HIT_5.out.kept hk (by simp))
          clear HK_5 HA_5 HG_5 HIS_5 HG6_5 HG7_5 HIT_5
          have HG7_6 := hide hb
          clear hb hk
          refine hK _ _ ⟨HA_6.out.cell 0, HA_6.out.cell 1, HA_6.out.cell 2⟩ ?_
          clear hK K
          try simp only [Act.put, List.setIfInBounds_toArray, List.set_cons_zero, List.set_cons_succ]
          refine wpAnyH_done (by kernel_rfl) ?_ _
          refine NoPanic.normal ?_
          go_wp2_with fail
          go_meet
          exact ⟨S, T, X, Y, g6, g7, rfl, rfl, HMS, HMT, HXX, HYX, HK_6, HG_6, hide HIS_6.out.at_, hide HIT_6.out.at_, HG6_6, HG7_6⟩
      · go_simp
        have hb : Blk (V1.alloc (.cells #[.int .i64 0, .int .i64 0, .int .i64 0, .int .i64 0, .int .i64 0, .int .i64 0, .int .i64 0, .int .i64 0, .int .i64 0, .int .i64 0, .int .i64 0, .slice none 0 0, .slice none 0 0, .slice none 0 0] 28)) V1.heap.size 28 (Rg.zero.cells Sl.zero) := Blk.new V1 _ _
        have hk : Kept [] V1 (V1.alloc (.cells #[.int .i64 0, .int .i64 0, .int .i64 0, .int .i64 0, .int .i64 0, .int .i64 0, .int .i64 0, .int .i64 0, .int .i64 0, .int .i64 0, .int .i64 0, .slice none 0 0, .slice none 0 0, .slice none 0 0] 28)) := (Kept.refl [] V1).alloc _
        obtain ⟨g7, hg⟩ : ∃ g7, V1.heap.size = g7 := ⟨_, rfl⟩
        have ha7 : a ≠ g7 := by have := HA_1.out.lt; omega
        have hG7 : G ≠ g7 := by have := HG_1.out.lt; omega
        have hz7 : w.heap.size ≤ g7 := by have := HK_1.out.size; omega
        have hIS := HIS_1.out.away (S' := [g7]) (by intro i hi; simp at hi ⊢; omega)
        clear HIS_1
        have HIS_1 := hide hIS
        clear hIS
        rw [hg] at hb ⊢
        generalize V1.alloc (.cells #[.int .i64 0, .int .i64 0, .int .i64 0, .int .i64 0, .int .i64 0, .int .i64 0, .int .i64 0, .int .i64 0, .int .i64 0, .int .i64 0, .int .i64 0, .slice none 0 0, .slice none 0 0, .slice none 0 0] 28) = V2 at hb hk ⊢
        have HK_2 := hide (HK_1.out.trans hk (by simp))
        have HA_2 := hide (hk.blk HA_1.out (by simp))
        have HG_2 := hide (HG_1.out.kept hk)
        have HV2_2 := hide (HV2_1.out.kept hk (by simp))
        have HIS_2 := hide (HIS_1.out.kept hk (by simp))
        clear HK_1 HA_1 HG_1 HV2_1 HIS_1
        have HG7_2 := hide hb
        clear hk hb hg
        refine hK _ _ ⟨HA_2.out.cell 0, HA_2.out.cell 1, HA_2.out.cell 2⟩ ?_
        clear hK K
        try simp only [Act.put, List.setIfInBounds_toArray, List.set_cons_zero, List.set_cons_succ]
        refine next_two (i := 5) (j := 6) (o := ⟨some 34, _, _, _, _, _⟩) (o' := ⟨some 12, _, _, _, _, _⟩) (by kernel_rfl) rfl (by rfl) rfl (by rfl) (fun K hK => ?_) (fun K hK => ?_)
        · go_simp
          refine (made_any x y z A2 l2 n2 c2 2 _ HV2_2.out HL2.out).mono ?_
          rintro e V3 ⟨T, Y, rfl, hgood, hY, hin, hk⟩
          rw [HDD.out] at hgood
          have HMT := hide hgood
          have HYX := hide hY
          unfold Rg.val
          have hi := hin [g7] (by intro i hi; simp at hi; have := HG7_2.out.lt; omega)
          clear hgood hY hin
          clear HV2_2
          have HK_3 := hide (HK_2.out.trans hk (by simp))
          have HA_3 := hide (hk.blk HA_2.out (by simp))
          have HG_3 := hide (HG_2.out.kept hk)
          have HIS_3 := hide (HIS_2.out.kept hk (by simp))
          have HG7_3 := hide (hk.blk HG7_2.out (by simp))
          clear HK_2 HA_2 HG_2 HIS_2 HG7_2
          have HIT_3 := hide hi
          clear hk hi
          refine hK _ _ ⟨HA_3.out.cell 0, HA_3.out.cell 1, HA_3.out.cell 2⟩ ?_
          clear hK K
          try simp only [Act.put, List.setIfInBounds_toArray, List.set_cons_zero, List.set_cons_succ]
          refine next_one (i := 6) (o := ⟨some 12, _, _, _, _, _⟩) (by kernel_rfl) rfl (by rfl) (fun K hK => ?_)
          go_simp
          have hb : Blk (V3.alloc (.cells #[.int .i64 0, .int .i64 0, .int .i64 0, .int .i64 0, .int .i64 0, .int .i64 0, .int .i64 0, .int .i64 0, .int .i64 0, .int .i64 0, .int .i64 0, .slice none 0 0, .slice none 0 0, .slice none 0 0] 28)) V3.heap.size 28 (Rg.zero.cells Sl.zero) := Blk.new V3 _ _
          have hk : Kept [] V3 (V3.alloc (.cells #[.int .i64 0, .int .i64 0, .int .i64 0, .int .i64 0, .int .i64 0, .int .i64 0, .int .i64 0, .int .i64 0, .int .i64 0, .int .i64 0, .int .i64 0, .slice none 0 0, .slice none 0 0, .slice none 0 0] 28)) := (Kept.refl [] V3).alloc _
          obtain ⟨g6, hg⟩ : ∃ g6, V3.heap.size = g6 := ⟨_, rfl⟩
          have ha6 : a ≠ g6 := by have := HA_3.out.lt; omega
          have hG6 : G ≠ g6 := by have := HG_3.out.lt; omega
          have hz6 : w.heap.size ≤ g6 := by have := HK_3.out.size; omega
          have h67 : g6 ≠ g7 := by have := HG7_3.out.lt; omega
          have hIS := HIS_3.out.away (S' := [g6, g7]) (by intro i hi; simp at hi ⊢; omega)
          clear HIS_3
          have HIS_3 := hide hIS
          clear hIS
          have hIT := HIT_3.out.away (S' := [g6, g7]) (by intro i hi; simp at hi ⊢; omega)
          clear HIT_3
          have HIT_3 := hide hIT
          clear hIT
          rw [hg] at hb ⊢
          generalize V3.alloc (.cells #[.int .i64 0, .int .i64 0, .int .i64 0, .int .i64 0, .int .i64 0, .int .i64 0, .int .i64 0, .int .i64 0, .int .i64 0, .int .i64 0, .int .i64 0, .slice none 0 0, .slice none 0 0, .slice none 0 0] 28) = V4 at hb hk ⊢
          have HK_4 := hide (HK_3.out.trans hk (by simp))
          have HA_4 := hide (hk.blk HA_3.out (by simp))
          have HG_4 := hide (HG_3.out.kept hk)
          have HIS_4 := hide (HIS_3.out.kept hk (by simp))
          have HG7_4 := hide (hk.blk HG7_3.out (by simp))
          have HIT_4 := hide (HIT_3.out.kept hk (by simp))
          clear HK_3 HA_3 HG_3 HIS_3 HG7_3 HIT_3
          have HG6_4 := hide hb
          clear hk hb hg
          refine hK _ _ ⟨HA_4.out.cell 0, HA_4.out.cell 1, HA_4.out.cell 2⟩ ?_
          clear hK K
          try simp only [Act.put, List.setIfInBounds_toArray, List.set_cons_zero, List.set_cons_succ]
          refine next_one (i := 8) (o := ⟨none, _, _, _, _, _⟩) (by kernel_rfl) rfl (by rfl) (fun K hK => ?_)
          obtain ⟨d0, d1, d2, d3, d4, d5, d6, d7, d8, d9, d10, d11, d12, d13⟩ := cell14 (HG6_4.out)
          have f0 := HG6_4.out.frozen 0
          have f1 := HG6_4.out.frozen 1
          have f2 := HG6_4.out.frozen 2
          have f3 := HG6_4.out.frozen 3
          have f4 := HG6_4.out.frozen 4
          have f5 := HG6_4.out.frozen 5
          have f6 := HG6_4.out.frozen 6
          have f7 := HG6_4.out.frozen 7
          have f8 := HG6_4.out.frozen 8
          have f9 := HG6_4.out.frozen 9
          have f10 := HG6_4.out.frozen 10
          have f11 := HG6_4.out.frozen 11
          have f12 := HG6_4.out.frozen 12
          have f13 := HG6_4.out.frozen 13
          have hb := put14_at S X HG6_4.out
          have hk := put14_kept (S := [g6]) (g := g6) S X (Kept.refl [g6] V4) (.inl (by simp))
          have HPE := hide (put14_eq V4 g6 S X)
          go_simp
          rw [HPE.out]
          clear HPE d0 f0 d1 f1 d2 f2 d3 f3 d4 f4 d5 f5 d6 f6 d7 f7 d8 f8 d9 f9 d10 f10 d11 f11 d12 f12 d13 f13
          generalize put14 V4 g6 S X = V5 at hb hk ⊢
          have HK_5 := hide (HK_4.out.trans hk (by simp; exact hz6))
          have HA_5 := hide (hk.blk HA_4.out (by simp; exact ha6))
          have HG_5 := hide (HG_4.out.kept hk (by simp; exact hG6))
          have HIS_5 := hide (HIS_4.out.kept hk (by simp))
          have HG7_5 := hide (hk.blk HG7_4.out (by simp; exact Ne.symm h67))
          have HIT_5 := hide (HIT_4.out.kept hk (by simp))
          clear HK_4 HA_4 HG_4 HIS_4 HG7_4 HIT_4 HG6_4
          have HG6_5 := hide hb
          clear hb hk
          refine hK _ _ ⟨HA_5.out.cell 0, HA_5.out.cell 1, HA_5.out.cell 2⟩ ?_
          clear hK K
          try simp only [Act.put, List.setIfInBounds_toArray, List.set_cons_zero, List.set_cons_succ]
          refine next_one (i := 9) (o := ⟨none, _, _, _, _, _⟩) (by kernel_rfl) rfl (by rfl) (fun K hK => ?_)
          obtain ⟨d0, d1, d2, d3, d4, d5, d6, d7, d8, d9, d10, d11, d12, d13⟩ := cell14 (HG7_5.out)
          have f0 := HG7_5.out.frozen 0
          have f1 := HG7_5.out.frozen 1
          have f2 := HG7_5.out.frozen 2
          have f3 := HG7_5.out.frozen 3
          have f4 := HG7_5.out.frozen 4
          have f5 := HG7_5.out.frozen 5
          have f6 := HG7_5.out.frozen 6
          have f7 := HG7_5.out.frozen 7
          have f8 := HG7_5.out.frozen 8
          have f9 := HG7_5.out.frozen 9
          have f10 := HG7_5.out.frozen 10
          have f11 := HG7_5.out.frozen 11
          have f12 := HG7_5.out.frozen 12
          have f13 := HG7_5.out.frozen 13
          have hb := put14_at T Y HG7_5.out
          have hk := put14_kept (S := [g7]) (g := g7) T Y (Kept.refl [g7] V5) (.inl (by simp))
          have HPE := hide (put14_eq V5 g7 T Y)
          go_simp
          rw [HPE.out]
          clear HPE d0 f0 d1 f1 d2 f2 d3 f3 d4 f4 d5 f5 d6 f6 d7 f7 d8 f8 d9 f9 d10 f10 d11 f11 d12 f12 d13 f13
          generalize put14 V5 g7 T Y = V6 at hb hk ⊢
          have HK_6 := hide (HK_5.out.trans hk (by simp; exact hz7))
          have HA_6 := hide (hk.blk HA_5.out (by simp; exact ha7))
          have HG_6 := hide (HG_5.out.kept hk (by simp; exact hG7))
          have HIS_6 := hide (HIS_5.out.kept hk (by simp))
          have HIT_6 := hide (HIT_5.out.kept hk (by simp))
          have HG6_6 := hide (hk.blk HG6_5.out (by simp; exact h67))
          clear HK_5 HA_5 HG_5 HIS_5 HG7_5 HIT_5 HG6_5
          have HG7_6 := hide hb
          clear hb hk
          refine hK _ _ ⟨HA_6.out.cell 0, HA_6.out.cell 1, HA_6.out.cell 2⟩ ?_
          clear hK K
          try simp only [Act.put, List.setIfInBounds_toArray, List.set_cons_zero, List.set_cons_succ]
          refine wpAnyH_done (by kernel_rfl) ?_ _
          refine NoPanic.normal ?_
          go_wp2_with fail
          go_meet
          exact ⟨S, T, X, Y, g6, g7, rfl, rfl, HMS, HMT, HXX, HYX, HK_6, HG_6, hide HIS_6.out.at_, hide HIT_6.out.at_, HG6_6, HG7_6⟩
        · go_simp
          have hb : Blk (V2.alloc (.cells #[.int .i64 0, .int .i64 0, .int .i64 0, .int .i64 0, .int .i64 0, .int .i64 0, .int .i64 0, .int .i64 0, .int .i64 0, .int .i64 0, .int .i64 0, .slice none 0 0, .slice none 0 0, .slice none 0 0] 28)) V2.heap.size 28 (Rg.zero.cells Sl.zero) := Blk.new V2 _ _
          have hk : Kept [] V2 (V2.alloc (.cells #[.int .i64 0, .int .i64 0, .int .i64 0, .int .i64 0, .int .i64 0, .int .i64 0, .int .i64 0, .int .i64 0, .int .i64 0, .int .i64 0, .int .i64 0, .slice none 0 0, .slice none 0 0, .slice none 0 0] 28)) := (Kept.refl [] V2).alloc _
          obtain ⟨g6, hg⟩ : ∃ g6, V2.heap.size = g6 := ⟨_, rfl⟩
          have ha6 : a ≠ g6 := by have := HA_2.out.lt; omega
          have hG6 : G ≠ g6 := by have := HG_2.out.lt; omega
          have hz6 : w.heap.size ≤ g6 := by have := HK_2.out.size; omega
          have h67 : g6 ≠ g7 := by have := HG7_2.out.lt; omega
          have hIS := HIS_2.out.away (S' := [g6, g7]) (by intro i hi; simp at hi ⊢; omega)
          clear HIS_2
          have HIS_2 := hide hIS
          clear hIS
          rw [hg] at hb ⊢
          generalize V2.alloc (.cells #[.int .i64 0, .int .i64 0, .int .i64 0, .int .i64 0, .int .i64 0, .int .i64 0, .int .i64 0, .int .i64 0, .int .i64 0, .int .i64 0, .int .i64 0, .slice none 0 0, .slice none 0 0, .slice none 0 0] 28) = V3 at hb hk ⊢
          have HK_3 := hide (HK_2.out.trans hk (by simp))
          have HA_3 := hide (hk.blk HA_2.out (by simp))
          have HG_3 := hide (HG_2.out.kept hk)
          have HV2_3 := hide (HV2_2.out.kept hk (by simp))
          have HIS_3 := hide (HIS_2.out.kept hk (by simp))
          have HG7_3 := hide (hk.blk HG7_2.out (by simp))
          clear HK_2 HA_2 HG_2 HV2_2 HIS_2 HG7_2
          have HG6_3 := hide hb
          clear hk hb hg
          refine hK _ _ ⟨HA_3.out.cell 0, HA_3.out.cell 1, HA_3.out.cell 2⟩ ?_
          clear hK K
          try simp only [Act.put, List.setIfInBounds_toArray, List.set_cons_zero, List.set_cons_succ]
          refine next_one (i := 5) (o := ⟨some 34, _, _, _, _, _⟩) (by kernel_rfl) rfl (by rfl) (fun K hK => ?_)
          go_simp
          refine (made_any x y z A2 l2 n2 c2 2 _ HV2_3.out HL2.out).mono ?_
          rintro e V4 ⟨T, Y, rfl, hgood, hY, hin, hk⟩
          rw [HDD.out] at hgood
          have HMT := hide hgood
          have HYX := hide hY
          unfold Rg.val
          have hi := hin [g6, g7] (by intro i hi; simp at hi; have := HG7_3.out.lt; have := HG6_3.out.lt; omega)
          clear hgood hY hin
          clear HV2_3
          have HK_4 := hide (HK_3.out.trans hk (by simp))
          have HA_4 := hide (hk.blk HA_3.out (by simp))
          have HG_4 := hide (HG_3.out.kept hk)
          have HIS_4 := hide (HIS_3.out.kept hk (by simp))
          have HG7_4 := hide (hk.blk HG7_3.out (by simp))
          have HG6_4 := hide (hk.blk HG6_3.out (by simp))
          clear HK_3 HA_3 HG_3 HIS_3 HG7_3 HG6_3
          have HIT_4 := hide hi
          clear hk hi
          refine hK _ _ ⟨HA_4.out.cell 0, HA_4.out.cell 1, HA_4.out.cell 2⟩ ?_
          clear hK K
          try simp only [Act.put, List.setIfInBounds_toArray, List.set_cons_zero, List.set_cons_succ]
          refine next_one (i := 8) (o := ⟨none, _, _, _, _, _⟩) (by kernel_rfl) rfl (by rfl) (fun K hK => ?_)
          obtain ⟨d0, d1, d2, d3, d4, d5, d6, d7, d8, d9, d10, d11, d12, d13⟩ := cell14 (HG6_4.out)
          have f0 := HG6_4.out.frozen 0
          have f1 := HG6_4.out.frozen 1
          have f2 := HG6_4.out.frozen 2
          have f3 := HG6_4.out.frozen 3
          have f4 := HG6_4.out.frozen 4
          have f5 := HG6_4.out.frozen 5
          have f6 := HG6_4.out.frozen 6
          have f7 := HG6_4.out.frozen 7
          have f8 := HG6_4.out.frozen 8
          have f9 := HG6_4.out.frozen 9
          have f10 := HG6_4.out.frozen 10
          have f11 := HG6_4.out.frozen 11
          have f12 := HG6_4.out.frozen 12
          have f13 := HG6_4.out.frozen 13
          have hb := put14_at S X HG6_4.out
          have hk := put14_kept (S := [g6]) (g := g6) S X (Kept.refl [g6] V4) (.inl (by simp))
          have HPE := hide (put14_eq V4 g6 S X)
          go_simp
          rw [HPE.out]
          clear HPE d0 f0 d1 f1 d2 f2 d3 f3 d4 f4 d5 f5 d6 f6 d7 f7 d8 f8 d9 f9 d10 f10 d11 f11 d12 f12 d13 f13
          generalize put14 V4 g6 S X = V5 at hb hk ⊢
          have HK_5 := hide (HK_4.out.trans hk (by simp; exact hz6))
          have HA_5 := hide (hk.blk HA_4.out (by simp; exact ha6))
          have HG_5 := hide (HG_4.out.kept hk (by simp; exact hG6))
          have HIS_5 := hide (HIS_4.out.kept hk (by simp))
          have HG7_5 := hide (hk.blk HG7_4.out (by simp; exact Ne.symm h67))
          have HIT_5 := hide (HIT_4.out.kept hk (by simp))
          clear HK_4 HA_4 HG_4 HIS_4 HG7_4 HG6_4 HIT_4
          have HG6_5 := hide hb
          clear hb hk
          refine hK _ _ ⟨HA_5.out.cell 0, HA_5.out.cell 1, HA_5.out.cell 2⟩ ?_
          clear hK K
          try simp only [Act.put, List.setIfInBounds_toArray, List.set_cons_zero, List.set_cons_succ]
          refine next_one (i := 9) (o := ⟨none, _, _, _, _, _⟩) (by kernel_rfl) rfl (by rfl) (fun K hK => ?_)
          obtain ⟨d0, d1, d2, d3, d4, d5, d6, d7, d8, d9, d10, d11, d12, d13⟩ := cell14 (HG7_5.out)
          have f0 := HG7_5.out.frozen 0
          have f1 := HG7_5.out.frozen 1
          have f2 := HG7_5.out.frozen 2
          have f3 := HG7_5.out.frozen 3
          have f4 := HG7_5.out.frozen 4
          have f5 := HG7_5.out.frozen 5
          have f6 := HG7_5.out.frozen 6
          have f7 := HG7_5.out.frozen 7
          have f8 := HG7_5.out.frozen 8
          have f9 := HG7_5.out.frozen 9
          have f10 := HG7_5.out.frozen 10
          have f11 := HG7_5.out.frozen 11
          have f12 := HG7_5.out.frozen 12
          have f13 := HG7_5.out.frozen 13
          have hb := put14_at T Y HG7_5.out
          have hk := put14_kept (S := [g7]) (g := g7) T Y (Kept.refl [g7] V5) (.inl (by simp))
          have HPE := hide (put14_eq V5 g7 T Y)
          go_simp
          rw [HPE.out]
          clear HPE d0 f0 d1 f1 d2 f2 d3 f3 d4 f4 d5 f5 d6 f6 d7 f7 d8 f8 d9 f9 d10 f10 d11 f11 d12 f12 d13 f13
          generalize put14 V5 g7 T Y = V6 at hb hk ⊢
          have HK_6 := hide (HK_5.out.trans hk (by simp; exact hz7))
          have HA_6 := hide (hk.blk HA_5.out (by simp; exact ha7))
          have HG_6 := hide (HG_5.out.kept hk (by simp; exact hG7))
          have HIS_6 := hide (HIS_5.out.kept hk (by simp))
          have HG6_6 := hide (hk.blk HG6_5.out (by simp; exact h67))
          have HIT_6 := hide (HIT_5.out.kept hk (by simp))
          clear HK_5 HA_5 HG_5 HIS_5 HG7_5 HG6_5 HIT_5
          have HG7_6 := hide hb
          clear hb hk
          refine hK _ _ ⟨HA_6.out.cell 0, HA_6.out.cell 1, HA_6.out.cell 2⟩ ?_
          clear hK K
          try simp only [Act.put, List.setIfInBounds_toArray, List.set_cons_zero, List.set_cons_succ]
          refine wpAnyH_done (by kernel_rfl) ?_ _
          refine NoPanic.normal ?_
          go_wp2_with fail
          go_meet
          exact ⟨S, T, X, Y, g6, g7, rfl, rfl, HMS, HMT, HXX, HYX, HK_6, HG_6, hide HIS_6.out.at_, hide HIT_6.out.at_, HG6_6, HG7_6⟩
    · go_simp
      have hb : Blk (V0.alloc (.cells #[.int .i64 0, .int .i64 0, .int .i64 0, .int .i64 0, .int .i64 0, .int .i64 0, .int .i64 0, .int .i64 0, .int .i64 0, .int .i64 0, .int .i64 0, .slice none 0 0, .slice none 0 0, .slice none 0 0] 28)) V0.heap.size 28 (Rg.zero.cells Sl.zero) := Blk.new V0 _ _
      have hk : Kept [] V0 (V0.alloc (.cells #[.int .i64 0, .int .i64 0, .int .i64 0, .int .i64 0, .int .i64 0, .int .i64 0, .int .i64 0, .int .i64 0, .int .i64 0, .int .i64 0, .int .i64 0, .slice none 0 0, .slice none 0 0, .slice none 0 0] 28)) := (Kept.refl [] V0).alloc _
      obtain ⟨g6, hg⟩ : ∃ g6, V0.heap.size = g6 := ⟨_, rfl⟩
      have ha6 : a ≠ g6 := by have := HA_0.out.lt; omega
      have hG6 : G ≠ g6 := by have := HG_0.out.lt; omega
      have hz6 : w.heap.size ≤ g6 := by have := HK_0.out.size; omega
      rw [hg] at hb ⊢
      generalize V0.alloc (.cells #[.int .i64 0, .int .i64 0, .int .i64 0, .int .i64 0, .int .i64 0, .int .i64 0, .int .i64 0, .int .i64 0, .int .i64 0, .int .i64 0, .int .i64 0, .slice none 0 0, .slice none 0 0, .slice none 0 0] 28) = V1 at hb hk ⊢
      have HK_1 := hide (HK_0.out.trans hk (by simp))
      have HA_1 := hide (hk.blk HA_0.out (by simp))
      have HG_1 := hide (HG_0.out.kept hk)
      have HV1_1 := hide (HV1_0.out.kept hk (by simp))
      have HV2_1 := hide (HV2_0.out.kept hk (by simp))
      clear HK_0 HA_0 HG_0 HV1_0 HV2_0
      have HG6_1 := hide hb
      clear hk hb hg
      refine hK _ _ ⟨HA_1.out.cell 0, HA_1.out.cell 1, HA_1.out.cell 2⟩ ?_
      clear hK K
      try simp only [Act.put, List.setIfInBounds_toArray, List.set_cons_zero, List.set_cons_succ]
      refine next_two (i := 2) (j := 7) (o := ⟨some 31, _, _, _, _, _⟩) (o' := ⟨some 13, _, _, _, _, _⟩) (by kernel_rfl) rfl (by rfl) rfl (by rfl) (fun K hK => ?_) (fun K hK => ?_)
      · go_simp
        refine (made_any x y z A1 l1 n1 c1 1 _ HV1_1.out HL1.out).mono ?_
        rintro e V2 ⟨S, X, rfl, hgood, hX, hin, hk⟩
        rw [HDD.out] at hgood
        have HMS := hide hgood
        have HXX := hide hX
        unfold Rg.val
        have hi := hin [g6] (by intro i hi; simp at hi; have := HG6_1.out.lt; omega)
        clear hgood hX hin
        clear HV1_1
        have HK_2 := hide (HK_1.out.trans hk (by simp))
        have HA_2 := hide (hk.blk HA_1.out (by simp))
        have HG_2 := hide (HG_1.out.kept hk)
        have HV2_2 := hide (HV2_1.out.kept hk (by simp))
        have HG6_2 := hide (hk.blk HG6_1.out (by simp))
        clear HK_1 HA_1 HG_1 HV2_1 HG6_1
        have HIS_2 := hide hi
        clear hk hi
        refine hK _ _ ⟨HA_2.out.cell 0, HA_2.out.cell 1, HA_2.out.cell 2⟩ ?_
        clear hK K
        try simp only [Act.put, List.setIfInBounds_toArray, List.set_cons_zero, List.set_cons_succ]
        refine next_two (i := 5) (j := 7) (o := ⟨some 34, _, _, _, _, _⟩) (o' := ⟨some 13, _, _, _, _, _⟩) (by kernel_rfl) rfl (by rfl) rfl (by rfl) (fun K hK => ?_) (fun K hK => ?_)
        · go_simp
          refine (made_any x y z A2 l2 n2 c2 2 _ HV2_2.out HL2.out).mono ?_
          rintro e V3 ⟨T, Y, rfl, hgood, hY, hin, hk⟩
          rw [HDD.out] at hgood
          have HMT := hide hgood
          have HYX := hide hY
          unfold Rg.val
          have hi := hin [g6] (by intro i hi; simp at hi; have := HG6_2.out.lt; omega)
          clear hgood hY hin
          clear HV2_2
          have HK_3 := hide (HK_2.out.trans hk (by simp))
          have HA_3 := hide (hk.blk HA_2.out (by simp))
          have HG_3 := hide (HG_2.out.kept hk)
          have HG6_3 := hide (hk.blk HG6_2.out (by simp))
          have HIS_3 := hide (HIS_2.out.kept hk (by simp))
          clear HK_2 HA_2 HG_2 HG6_2 HIS_2
          have HIT_3 := hide hi
          clear hk hi
          refine hK _ _ ⟨HA_3.out.cell 0, HA_3.out.cell 1, HA_3.out.cell 2⟩ ?_
          clear hK K
          try simp only [Act.put, List.setIfInBounds_toArray, List.set_cons_zero, List.set_cons_succ]
          refine next_one (i := 7) (o := ⟨some 13, _, _, _, _, _⟩) (by kernel_rfl) rfl (by rfl) (fun K hK => ?_)
          go_simp
          have hb : Blk (V3.alloc (.cells #[.int .i64 0, .int .i64 0, .int .i64 0, .int .i64 0, .int .i64 0, .int .i64 0, .int .i64 0, .int .i64 0, .int .i64 0, .int .i64 0, .int .i64 0, .slice none 0 0, .slice none 0 0, .slice none 0 0] 28)) V3.heap.size 28 (Rg.zero.cells Sl.zero) := Blk.new V3 _ _
          have hk : Kept [] V3 (V3.alloc (.cells #[.int .i64 0, .int .i64 0, .int .i64 0, .int .i64 0, .int .i64 0, .int .i64 0, .int .i64 0, .int .i64 0, .int .i64 0, .int .i64 0, .int .i64 0, .slice none 0 0, .slice none 0 0, .slice none 0 0] 28)) := (Kept.refl [] V3).alloc _
          obtain ⟨g7, hg⟩ : ∃ g7, V3.heap.size = g7 := ⟨_, rfl⟩
          have ha7 : a ≠ g7 := by have := HA_3.out.lt; omega
          have hG7 : G ≠ g7 := by have := HG_3.out.lt; omega
          have hz7 : w.heap.size ≤ g7 := by have := HK_3.out.size; omega
          have h67 : g6 ≠ g7 := by have := HG6_3.out.lt; omega
          have hIS := HIS_3.out.away (S' := [g7, g6]) (by intro i hi; simp at hi ⊢; omega)
          clear HIS_3
          have HIS_3 := hide hIS
          clear hIS
          have hIT := HIT_3.out.away (S' := [g7, g6]) (by intro i hi; simp at hi ⊢; omega)
          clear HIT_3
          have HIT_3 := hide hIT
          clear hIT
          rw [hg] at hb ⊢
          generalize V3.alloc (.cells #[.int .i64 0, .int .i64 0, .int .i64 0, .int .i64 0, .int .i64 0, .int .i64 0, .int .i64 0, .int .i64 0, .int .i64 0, .int .i64 0, .int .i64 0, .slice none 0 0, .slice none 0 0, .slice none 0 0] 28) = V4 at hb hk ⊢
          have HK_4 := hide (HK_3.out.trans hk (by simp))
          have HA_4 := hide (hk.blk HA_3.out (by simp))
          have HG_4 := hide (HG_3.out.kept hk)
          have HG6_4 := hide (hk.blk HG6_3.out (by simp))
          have HIS_4 := hide (HIS_3.out.kept hk (by simp))
          have HIT_4 := hide (HIT_3.out.kept hk (by simp))
          clear HK_3 HA_3 HG_3 HG6_3 HIS_3 HIT_3
          have HG7_4 := hide hb
          clear hk hb hg
          refine hK _ _ ⟨HA_4.out.cell 0, HA_4.out.cell 1, HA_4.out.cell 2⟩ ?_
          clear hK K
          try simp only [Act.put, List.setIfInBounds_toArray, List.set_cons_zero, List.set_cons_succ]
          refine next_one (i := 8) (o := ⟨none, _, _, _, _, _⟩) (by kernel_rfl) rfl (by rfl) (fun K hK => ?_)
          obtain ⟨d0, d1, d2, d3, d4, d5, d6, d7, d8, d9, d10, d11, d12, d13⟩ := cell14 (HG6_4.out)
          have f0 := HG6_4.out.frozen 0
          have f1 := HG6_4.out.frozen 1
          have f2 := HG6_4.out.frozen 2
          have f3 := HG6_4.out.frozen 3
          have f4 := HG6_4.out.frozen 4
          have f5 := HG6_4.out.frozen 5
          have f6 := HG6_4.out.frozen 6
          have f7 := HG6_4.out.frozen 7
          have f8 := HG6_4.out.frozen 8
          have f9 := HG6_4.out.frozen 9
          have f10 := HG6_4.out.frozen 10
          have f11 := HG6_4.out.frozen 11
          have f12 := HG6_4.out.frozen 12
          have f13 := HG6_4.out.frozen 13
          have hb := put14_at S X HG6_4.out
          have hk := put14_kept (S := [g6]) (g := g6) S X (Kept.refl [g6] V4) (.inl (by simp))
          have HPE := hide (put14_eq V4 g6 S X)
          go_simp
          rw [HPE.out]
          clear HPE d0 f0 d1 f1 d2 f2 d3 f3 d4 f4 d5 f5 d6 f6 d7 f7 d8 f8 d9 f9 d10 f10 d11 f11 d12 f12 d13 f13
          generalize put14 V4 g6 S X = V5 at hb hk ⊢
          have HK_5 := hide (HK_4.out.trans hk (by simp; exact hz6))
          have HA_5 := hide (hk.blk HA_4.out (by simp; exact ha6))
          have HG_5 := hide (HG_4.out.kept hk (by simp; exact hG6))
          have HIS_5 := hide (HIS_4.out.kept hk (by simp))
          have HIT_5 := hide (HIT_4.out.kept hk (by simp))
          have HG7_5 := hide (hk.blk HG7_4.out (by simp; exact Ne.symm h67))
          clear HK_4 HA_4 HG_4 HG6_4 HIS_4 HIT_4 HG7_4
          have HG6_5 := hide hb
          clear hb hk
          refine hK _ _ ⟨HA_5.out.cell 0, HA_5.out.cell 1, HA_5.out.cell 2⟩ ?_
          clear hK K
          try simp only [Act.put, List.setIfInBounds_toArray, List.set_cons_zero, List.set_cons_succ]
          refine next_one (i := 9) (o := ⟨none, _, _, _, _, _⟩) (by kernel_rfl) rfl (by rfl) (fun K hK => ?_)
          obtain ⟨d0, d1, d2, d3, d4, d5, d6, d7, d8, d9, d10, d11, d12, d13⟩ := cell14 (HG7_5.out)
          have f0 := HG7_5.out.frozen 0
          have f1 := HG7_5.out.frozen 1
          have f2 := HG7_5.out.frozen 2
          have f3 := HG7_5.out.frozen 3
          have f4 := HG7_5.out.frozen 4
          have f5 := HG7_5.out.frozen 5
          have f6 := HG7_5.out.frozen 6
          have f7 := HG7_5.out.frozen 7
          have f8 := HG7_5.out.frozen 8
          have f9 := HG7_5.out.frozen 9
          have f10 := HG7_5.out.frozen 10
          have f11 := HG7_5.out.frozen 11
          have f12 := HG7_5.out.frozen 12
          have f13 := HG7_5.out.frozen 13
          have hb := put14_at T Y HG7_5.out
          have hk := put14_kept (S := [g7]) (g := g7) T Y (Kept.refl [g7] V5) (.inl (by simp))
          have HPE := hide (put14_eq V5 g7 T Y)
          go_simp
          rw [HPE.out]
          clear HPE d0 f0 d1 f1 d2 f2 d3 f3 d4 f4 d5 f5 d6 f6 d7 f7 d8 f8 d9 f9 d10 f10 d11 f11 d12 f12 d13 f13
          generalize put14 V5 g7 T Y = V6 at hb hk ⊢
          have HK_6 := hide (HK_5.out.trans hk (by simp; exact hz7))
          have HA_6 := hide (hk.blk HA_5.out (by simp; exact ha7))
          have HG_6 := hide (HG_5.out.kept hk (by simp; exact hG7))
          have HG6_6 := hide (hk.blk HG6_5.out (by simp; exact h67))
          have HIS_6 := hide (HIS_5.out.kept hk (by simp))
          have HIT_6 := hide (HIT_5.out.kept hk (by simp))
          clear HK_5 HA_5 HG_5 HG6_5 HIS_5 HIT_5 HG7_5
          have HG7_6 := hide hb
          clear hb hk
          refine hK _ _ ⟨HA_6.out.cell 0, HA_6.out.cell 1, HA_6.out.cell 2⟩ ?_
          clear hK K
          try simp only [Act.put, List.setIfInBounds_toArray, List.set_cons_zero, List.set_cons_succ]
          refine wpAnyH_done (by kernel_rfl) ?_ _
          refine NoPanic.normal ?_
          go_wp2_with fail
          go_meet
          exact ⟨S, T, X, Y, g6, g7, rfl, rfl, HMS, HMT, HXX, HYX, HK_6, HG_6, hide HIS_6.out.at_, hide HIT_6.out.at_, HG6_6, HG7_6⟩
        · go_simp
          have hb : Blk (V2.alloc (.cells #[.int .i64 0, .int .i64 0, .int .i64 0, .int .i64 0, .int .i64 0, .int .i64 0, .int .i64 0, .int .i64 0, .int .i64 0, .int .i64 0, .int .i64 0, .slice none 0 0, .slice none 0 0, .slice none 0 0] 28)) V2.heap.size 28 (Rg.zero.cells Sl.zero) := Blk.new V2 _ _
          have hk : Kept [] V2 (V2.alloc (.cells #[.int .i64 0, .int .i64 0, .int .i64 0, .int .i64 0, .int .i64 0, .int .i64 0, .int .i64 0, .int .i64 0, .int .i64 0, .int .i64 0, .int .i64 0, .slice none 0 0, .slice none 0 0, .slice none 0 0] 28)) := (Kept.refl [] V2).alloc _
          obtain ⟨g7, hg⟩ : ∃ g7, V2.heap.size = g7 := ⟨_, rfl⟩
          have ha7 : a ≠ g7 := by have := HA_2.out.lt; omega
          have hG7 : G ≠ g7 := by have := HG_2.out.lt; omega
          have hz7 : w.heap.size ≤ g7 := by have := HK_2.out.size; omega
          have h67 : g6 ≠ g7 := by have := HG6_2.out.lt; omega
          have hIS := HIS_2.out.away (S' := [g7, g6]) (by intro i hi; simp at hi ⊢; omega)
          clear HIS_2
          have HIS_2 := hide hIS
          clear hIS
          rw [hg] at hb ⊢
          generalize V2.alloc (.cells #[.int .i64 0, .int .i64 0, .int .i64 0, .int .i64 0, .int .i64 0, .int .i64 0, .int .i64 0, .int .i64 0, .int .i64 0, .int .i64 0, .int .i64 0, .slice none 0 0, .slice none 0 0, .slice none 0 0] 28) = V3 at hb hk ⊢
          have HK_3 := hide (HK_2.out.trans hk (by simp))
          have HA_3 := hide (hk.blk HA_2.out (by simp))
          have HG_3 := hide (HG_2.out.kept hk)
          have HV2_3 := hide (HV2_2.out.kept hk (by simp))
          have HG6_3 := hide (hk.blk HG6_2.out (by simp))
          have HIS_3 := hide (HIS_2.out.kept hk (by simp))
          clear HK_2 HA_2 HG_2 HV2_2 HG6_2 HIS_2
          have HG7_3 := hide hb
          clear hk hb hg
          refine hK _ _ ⟨HA_3.out.cell 0, HA_3.out.cell 1, HA_3.out.cell 2⟩ ?_
          clear hK K
          try simp only [Act.put, List.setIfInBounds_toArray, List.set_cons_zero, List.set_cons_succ]
          refine next_one (i := 5) (o := ⟨some 34, _, _, _, _, _⟩) (by kernel_rfl) rfl (by rfl) (fun K hK => ?_)
          go_simp
          refine (made_any x y z A2 l2 n2 c2 2 _ HV2_3.out HL2.out).mono ?_
          rintro e V4 ⟨T, Y, rfl, hgood, hY, hin, hk⟩
          rw [HDD.out] at hgood
          have HMT := hide hgood
          have HYX := hide hY
          unfold Rg.val
          have hi := hin [g7, g6] (by intro i hi; simp at hi; have := HG6_3.out.lt; have := HG7_3.out.lt; omega)
          clear hgood hY hin
          clear HV2_3
          have HK_4 := hide (HK_3.out.trans hk (by simp))
          have HA_4 := hide (hk.blk HA_3.out (by simp))
          have HG_4 := hide (HG_3.out.kept hk)
          have HG6_4 := hide (hk.blk HG6_3.out (by simp))
          have HIS_4 := hide (HIS_3.out.kept hk (by simp))
          have HG7_4 := hide (hk.blk HG7_3.out (by simp))
          clear HK_3 HA_3 HG_3 HG6_3 HIS_3 HG7_3
          have HIT_4 := hide hi
          clear hk hi
          refine hK _ _ ⟨HA_4.out.cell 0, HA_4.out.cell 1, HA_4.out.cell 2⟩ ?_
          clear hK K
          try simp only [Act.put, List.setIfInBounds_toArray, List.set_cons_zero, List.set_cons_succ]
          refine next_one (i := 8) (o := ⟨none, _, _, _, _, _⟩) (by kernel_rfl) rfl (by rfl) (fun K hK => ?_)
          obtain ⟨d0, d1, d2, d3, d4, d5, d6, d7, d8, d9, d10, d11, d12, d13⟩ := cell14 (HG6_4.out)
          have f0 := HG6_4.out.frozen 0
          have f1 := HG6_4.out.frozen 1
          have f2 := HG6_4.out.frozen 2
          have f3 := HG6_4.out.frozen 3
          have f4 := HG6_4.out.frozen 4
          have f5 := HG6_4.out.frozen 5
          have f6 := HG6_4.out.frozen 6
          have f7 := HG6_4.out.frozen 7
          have f8 := HG6_4.out.frozen 8
          have f9 := HG6_4.out.frozen 9
          have f10 := HG6_4.out.frozen 10
          have f11 := HG6_4.out.frozen 11
          have f12 := HG6_4.out.frozen 12
          have f13 := HG6_4.out.frozen 13
          have hb := put14_at S X HG6_4.out
          have hk := put14_kept (S := [g6]) (g := g6) S X (Kept.refl [g6] V4) (.inl (by simp))
          have HPE := hide (put14_eq V4 g6 S X)
          go_simp
          rw [HPE.out]
          clear HPE d0 f0 d1 f1 d2 f2 d3 f3 d4 f4 d5 f5 d6 f6 d7 f7 d8 f8 d9 f9 d10 f10 d11 f11 d12 f12 d13 f13
          generalize put14 V4 g6 S X = V5 at hb hk ⊢
          have HK_5 := hide (HK_4.out.trans hk (by simp; exact hz6))
          have HA_5 := hide (hk.blk HA_4.out (by simp; exact ha6))
          have HG_5 := hide (HG_4.out.kept hk (by simp; exact hG6))
          have HIS_5 := hide (HIS_4.out.kept hk (by simp))
          have HG7_5 := hide (hk.blk HG7_4.out (by simp; exact Ne.symm h67))
          have HIT_5 := hide (HIT_4.out.kept hk (by simp))
          clear HK_4 HA_4 HG_4 HG6_4 HIS_4 HG7_4 HIT_4
          have HG6_5 := hide hb
          clear hb hk
          refine hK _ _ ⟨HA_5.out.cell 0, HA_5.out.cell 1, HA_5.out.cell 2⟩ ?_
          clear hK K
          try simp only [Act.put, List.setIfInBounds_toArray, List.set_cons_zero, List.set_cons_succ]
          refine next_one (i := 9) (o := ⟨none, _, _, _, _, _⟩) (by kernel_rfl) rfl (by rfl) (fun K hK => ?_)
          obtain ⟨d0, d1, d2, d3, d4, d5, d6, d7, d8, d9, d10, d11, d12, d13⟩ := cell14 (HG7_5.out)
          have f0 := HG7_5.out.frozen 0
          have f1 := HG7_5.out.frozen 1
          have f2 := HG7_5.out.frozen 2
          have f3 := HG7_5.out.frozen 3
          have f4 := HG7_5.out.frozen 4
          have f5 := HG7_5.out.frozen 5
          have f6 := HG7_5.out.frozen 6
          have f7 := HG7_5.out.frozen 7
          have f8 := HG7_5.out.frozen 8
          have f9 := HG7_5.out.frozen 9
          have f10 := HG7_5.out.frozen 10
          have f11 := HG7_5.out.frozen 11
          have f12 := HG7_5.out.frozen 12
          have f13 := HG7_5.out.frozen 13
          have hb := put14_at T Y HG7_5.out
          have hk := put14_kept (S := [g7]) (g := g7) T Y (Kept.refl [g7] V5) (.inl (by simp))
          have HPE := hide (put14_eq V5 g7 T Y)
          go_simp
          rw [HPE.out]
          clear HPE d0 f0 d1 f1 d2 f2 d3 f3 d4 f4 d5 f5 d6 f6 d7 f7 d8 f8 d9 f9 d10 f10 d11 f11 d12 f12 d13 f13
          generalize put14 V5 g7 T Y = V6 at hb hk ⊢
          have HK_6 := hide (HK_5.out.trans hk (by simp; exact hz7))
          have HA_6 := hide (hk.blk HA_5.out (by simp; exact ha7))
          have HG_6 := hide (HG_5.out.kept hk (by simp; exact hG7))
          have HG6_6 := hide (hk.blk HG6_5.out (by simp; exact h67))
          have HIS_6 := hide (HIS_5.out.kept hk (by simp))
          have HIT_6 := hide (HIT_5.out.kept hk (by simp))
          clear HK_5 HA_5 HG_5 HG6_5 HIS_5 HG7_5 HIT_5
          have HG7_6 := hide hb
          clear hb hk
          refine hK _ _ ⟨HA_6.out.cell 0, HA_6.out.cell 1, HA_6.out.cell 2⟩ ?_
          clear hK K
          try simp only [Act.put, List.setIfInBounds_toArray, List.set_cons_zero, List.set_cons_succ]
          refine wpAnyH_done (by kernel_rfl) ?_ _
          refine NoPanic.normal ?_
          go_wp2_with fail
          go_meet
          exact ⟨S, T, X, Y, g6, g7, rfl, rfl, HMS, HMT, HXX, HYX, HK_6, HG_6, hide HIS_6.out.at_, hide HIT_6.out.at_, HG6_6, HG7_6⟩
      · go_simp
        have hb : Blk (V1.alloc (.cells #[.int .i64 0, .int .i64 0, .int .i64 0, .int .i64 0, .int .i64 0, .int .i64 0, .int .i64 0, .int .i64 0, .int .i64 0, .int .i64 0, .int .i64 0, .slice none 0 0, .slice none 0 0, .slice none 0 0] 28)) V1.heap.size 28 (Rg.zero.cells Sl.zero) := Blk.new V1 _ _
        have hk : Kept [] V1 (V1.alloc (.cells #[.int .i64 0, .int .i64 0, .int .i64 0, .int .i64 0, .int .i64 0, .int .i64 0, .int .i64 0, .int .i64 0, .int .i64 0, .int .i64 0, .int .i64 0, .slice none 0 0, .slice none 0 0, .slice none 0 0] 28)) := (Kept.refl [] V1).alloc _
        obtain ⟨g7, hg⟩ : ∃ g7, V1.heap.size = g7 := ⟨_, rfl⟩
        have ha7 : a ≠ g7 := by have := HA_1.out.lt; omega
        have hG7 : G ≠ g7 := by have := HG_1.out.lt; omega
        have hz7 : w.heap.size ≤ g7 := by have := HK_1.out.size; omega
        have h67 : g6 ≠ g7 := by have := HG6_1.out.lt; omega
        rw [hg] at hb ⊢
        generalize V1.alloc (.cells #[.int .i64 0, .int .i64 0, .int .i64 0, .int .i64 0, .int .i64 0, .int .i64 0, .int .i64 0, .int .i64 0, .int .i64 0, .int .i64 0, .int .i64 0, .slice none 0 0, .slice none 0 0, .slice none 0 0] 28) = V2 at hb hk ⊢
        have HK_2 := hide (HK_1.out.trans hk (by simp))
        have HA_2 := hide (hk.blk HA_1.out (by simp))
        have HG_2 := hide (HG_1.out.kept hk)
        have HV1_2 := hide (HV1_1.out.kept hk (by simp))
        have HV2_2 := hide (HV2_1.out.kept hk (by simp))
        have HG6_2 := hide (hk.blk HG6_1.out (by simp))
        clear HK_1 HA_1 HG_1 HV1_1 HV2_1 HG6_1
        have HG7_2 := hide hb
        clear hk hb hg
        refine hK _ _ ⟨HA_2.out.cell 0, HA_2.out.cell 1, HA_2.out.cell 2⟩ ?_
        clear hK K
        try simp only [Act.put, List.setIfInBounds_toArray, List.set_cons_zero, List.set_cons_succ]
        refine next_one (i := 2) (o := ⟨some 31, _, _, _, _, _⟩) (by kernel_rfl) rfl (by rfl) (fun K hK => ?_)
        go_simp
        refine (made_any x y z A1 l1 n1 c1 1 _ HV1_2.out HL1.out).mono ?_
        rintro e V3 ⟨S, X, rfl, hgood, hX, hin, hk⟩
        rw [HDD.out] at hgood
        have HMS := hide hgood
        have HXX := hide hX
        unfold Rg.val
        have hi := hin [g7, g6] (by intro i hi; simp at hi; have := HG6_2.out.lt; have := HG7_2.out.lt; omega)
        clear hgood hX hin
        clear HV1_2
        have HK_3 := hide (HK_2.out.trans hk (by simp))
        have HA_3 := hide (hk.blk HA_2.out (by simp))
        have HG_3 := hide (HG_2.out.kept hk)
        have HV2_3 := hide (HV2_2.out.kept hk (by simp))
        have HG6_3 := hide (hk.blk HG6_2.out (by simp))
        have HG7_3 := hide (hk.blk HG7_2.out (by simp))
        clear HK_2 HA_2 HG_2 HV2_2 HG6_2 HG7_2
        have HIS_3 := hide hi
        clear hk hi
        refine hK _ _ ⟨HA_3.out.cell 0, HA_3.out.cell 1, HA_3.out.cell 2⟩ ?_
        clear hK K
        try simp only [Act.put, List.setIfInBounds_toArray, List.set_cons_zero, List.set_cons_succ]
        refine next_one (i := 5) (o := ⟨some 34, _, _, _, _, _⟩) (by kernel_rfl) rfl (by rfl) (fun K hK => ?_)
        go_simp
        refine (made_any x y z A2 l2 n2 c2 2 _ HV2_3.out HL2.out).mono ?_
        rintro e V4 ⟨T, Y, rfl, hgood, hY, hin, hk⟩
        rw [HDD.out] at hgood
        have HMT := hide hgood
        have HYX := hide hY
        unfold Rg.val
        have hi := hin [g7, g6] (by intro i hi; simp at hi; have := HG6_3.out.lt; have := HG7_3.out.lt; omega)
        clear hgood hY hin
        clear HV2_3
        have HK_4 := hide (HK_3.out.trans hk (by simp))
        have HA_4 := hide (hk.blk HA_3.out (by simp))
        have HG_4 := hide (HG_3.out.kept hk)
        have HG6_4 := hide (hk.blk HG6_3.out (by simp))
        have HG7_4 := hide (hk.blk HG7_3.out (by simp))
        have HIS_4 := hide (HIS_3.out.kept hk (by simp))
        clear HK_3 HA_3 HG_3 HG6_3 HG7_3 HIS_3
        have HIT_4 := hide hi
        clear hk hi
        refine hK _ _ ⟨HA_4.out.cell 0, HA_4.out.cell 1, HA_4.out.cell 2⟩ ?_
        clear hK K
        try simp only [Act.put, List.setIfInBounds_toArray, List.set_cons_zero, List.set_cons_succ]
        refine next_one (i := 8) (o := ⟨none, _, _, _, _, _⟩) (by kernel_rfl) rfl (by rfl) (fun K hK => ?_)
        obtain ⟨d0, d1, d2, d3, d4, d5, d6, d7, d8, d9, d10, d11, d12, d13⟩ := cell14 (HG6_4.out)
        have f0 := HG6_4.out.frozen 0
        have f1 := HG6_4.out.frozen 1
        have f2 := HG6_4.out.frozen 2
        have f3 := HG6_4.out.frozen 3
        have f4 := HG6_4.out.frozen 4
        have f5 := HG6_4.out.frozen 5
        have f6 := HG6_4.out.frozen 6
        have f7 := HG6_4.out.frozen 7
        have f8 := HG6_4.out.frozen 8
        have f9 := HG6_4.out.frozen 9
        have f10 := HG6_4.out.frozen 10
        have f11 := HG6_4.out.frozen 11
        have f12 := HG6_4.out.frozen 12
        have f13 := HG6_4.out.frozen 13
        have hb := put14_at S X HG6_4.out
        have hk := put14_kept (S := [g6]) (g := g6) S X (Kept.refl [g6] V4) (.inl (by simp))
        have HPE := hide (put14_eq V4 g6 S X)
        go_simp
        rw [HPE.out]
        clear HPE d0 f0 d1 f1 d2 f2 d3 f3 d4 f4 d5 f5 d6 f6 d7 f7 d8 f8 d9 f9 d10 f10 d11 f11 d12 f12 d13 f13
        generalize put14 V4 g6 S X = V5 at hb hk ⊢
        have HK_5 := hide (HK_4.out.trans hk (by simp; exact hz6))
        have HA_5 := hide (hk.blk HA_4.out (by simp; exact ha6))
        have HG_5 := hide (HG_4.out.kept hk (by simp; exact hG6))
        have HG7_5 := hide (hk.blk HG7_4.out (by simp; exact Ne.symm h67))
        have HIS_5 := hide (HIS_4.out.kept hk (by simp))
        have HIT_5 := hide (HIT_4.out.kept hk (by simp))
        clear HK_4 HA_4 HG_4 HG6_4 HG7_4 HIS_4 HIT_4
        have HG6_5 := hide hb
        clear hb hk
        refine hK _ _ ⟨HA_5.out.cell 0, HA_5.out.cell 1, HA_5.out.cell 2⟩ ?_
        clear hK K
        try simp only [Act.put, List.setIfInBounds_toArray, List.set_cons_zero, List.set_cons_succ]
        refine next_one (i := 9) (o := ⟨none, _, _, _, _, _⟩) (by kernel_rfl) rfl (by rfl) (fun K hK => ?_)
        obtain ⟨d0, d1, d2, d3, d4, d5, d6, d7, d8, d9, d10, d11, d12, d13⟩ := cell14 (HG7_5.out)
        have f0 := HG7_5.out.frozen 0
        have f1 := HG7_5.out.frozen 1
        have f2 := HG7_5.out.frozen 2
        have f3 := HG7_5.out.frozen 3
        have f4 := HG7_5.out.frozen 4
        have f5 := HG7_5.out.frozen 5
        have f6 := HG7_5.out.frozen 6
        have f7 := HG7_5.out.frozen 7
        have f8 := HG7_5.out.frozen 8
        have f9 := HG7_5.out.frozen 9
        have f10 := HG7_5.out.frozen 10
        have f11 := HG7_5.out.frozen 11
        have f12 := HG7_5.out.frozen 12
        have f13 := HG7_5.out.frozen 13
        have hb := put14_at T Y HG7_5.out
        have hk := put14_kept (S := [g7]) (g := g7) T Y (Kept.refl [g7] V5) (.inl (by simp))
        have HPE := hide (put14_eq V5 g7 T Y)
        go_simp
        rw [HPE.out]
        clear HPE d0 f0 d1 f1 d2 f2 d3 f3 d4 f4 d5 f5 d6 f6 d7 f7 d8 f8 d9 f9 d10 f10 d11 f11 d12 f12 d13 f13
        generalize put14 V5 g7 T Y = V6 at hb hk ⊢
        have HK_6 := hide (HK_5.out.trans hk (by simp; exact hz7))
        have HA_6 := hide (hk.blk HA_5.out (by simp; exact ha7))
        have HG_6 := hide (HG_5.out.kept hk (by simp; exact hG7))
        have HG6_6 := hide (hk.blk HG6_5.out (by simp; exact h67))
        have HIS_6 := hide (HIS_5.out.kept hk (by simp))
        have HIT_6 := hide (HIT_5.out.kept hk (by simp))
        clear HK_5 HA_5 HG_5 HG6_5 HG7_5 HIS_5 HIT_5
        have HG7_6 := hide hb
        clear hb hk
        refine hK _ _ ⟨HA_6.out.cell 0, HA_6.out.cell 1, HA_6.out.cell 2⟩ ?_
        clear hK K
        try simp only [Act.put, List.setIfInBounds_toArray, List.set_cons_zero, List.set_cons_succ]
        refine wpAnyH_done (by kernel_rfl) ?_ _
        refine NoPanic.normal ?_
        go_wp2_with fail
        go_meet
        exact ⟨S, T, X, Y, g6, g7, rfl, rfl, HMS, HMT, HXX, HYX, HK_6, HG_6, hide HIS_6.out.at_, hide HIT_6.out.at_, HG6_6, HG7_6⟩
    · go_simp
      have hb : Blk (V0.alloc (.cells #[.int .i64 0, .int .i64 0, .int .i64 0, .int .i64 0, .int .i64 0, .int .i64 0, .int .i64 0, .int .i64 0, .int .i64 0, .int .i64 0, .int .i64 0, .slice none 0 0, .slice none 0 0, .slice none 0 0] 28)) V0.heap.size 28 (Rg.zero.cells Sl.zero) := Blk.new V0 _ _
      have hk : Kept [] V0 (V0.alloc (.cells #[.int .i64 0, .int .i64 0, .int .i64 0, .int .i64 0, .int .i64 0, .int .i64 0, .int .i64 0, .int .i64 0, .int .i64 0, .int .i64 0, .int .i64 0, .slice none 0 0, .slice none 0 0, .slice none 0 0] 28)) := (Kept.refl [] V0).alloc _
      obtain ⟨g7, hg⟩ : ∃ g7, V0.heap.size = g7 := ⟨_, rfl⟩
      have ha7 : a ≠ g7 := by have := HA_0.out.lt; omega
      have hG7 : G ≠ g7 := by have := HG_0.out.lt; omega
      have hz7 : w.heap.size ≤ g7 := by have := HK_0.out.size; omega
      rw [hg] at hb ⊢
      generalize V0.alloc (.cells #[.int .i64 0, .int .i64 0, .int .i64 0, .int .i64 0, .int .i64 0, .int .i64 0, .int .i64 0, .int .i64 0, .int .i64 0, .int .i64 0, .int .i64 0, .slice none 0 0, .slice none 0 0, .slice none 0 0] 28) = V1 at hb hk ⊢
      have HK_1 := hide (HK_0.out.trans hk (by simp))
      have HA_1 := hide (hk.blk HA_0.out (by simp))
      have HG_1 := hide (HG_0.out.kept hk)
      have HV1_1 := hide (HV1_0.out.kept hk (by simp))
      have HV2_1 := hide (HV2_0.out.kept hk (by simp))
      clear HK_0 HA_0 HG_0 HV1_0 HV2_0
      have HG7_1 := hide hb
      clear hk hb hg
      refine hK _ _ ⟨HA_1.out.cell 0, HA_1.out.cell 1, HA_1.out.cell 2⟩ ?_
      clear hK K
      try simp only [Act.put, List.setIfInBounds_toArray, List.set_cons_zero, List.set_cons_succ]
      refine next_two (i := 2) (j := 6) (o := ⟨some 31, _, _, _, _, _⟩) (o' := ⟨some 12, _, _, _, _, _⟩) (by kernel_rfl) rfl (by rfl) rfl (by rfl) (fun K hK => ?_) (fun K hK => ?_)
      · go_simp
        refine (made_any x y z A1 l1 n1 c1 1 _ HV1_1.out HL1.out).mono ?_
        rintro e V2 ⟨S, X, rfl, hgood, hX, hin, hk⟩
        rw [HDD.out] at hgood
        have HMS := hide hgood
        have HXX := hide hX
        unfold Rg.val
        have hi := hin [g7] (by intro i hi; simp at hi; have := HG7_1.out.lt; omega)
        clear hgood hX hin
        clear HV1_1
        have HK_2 := hide (HK_1.out.trans hk (by simp))
        have HA_2 := hide (hk.blk HA_1.out (by simp))
        have HG_2 := hide (HG_1.out.kept hk)
        have HV2_2 := hide (HV2_1.out.kept hk (by simp))
        have HG7_2 := hide (hk.blk HG7_1.out (by simp))
        clear HK_1 HA_1 HG_1 HV2_1 HG7_1
        have HIS_2 := hide hi
        clear hk hi
        refine hK _ _ ⟨HA_2.out.cell 0, HA_2.out.cell 1, HA_2.out.cell 2⟩ ?_
        clear hK K
        try simp only [Act.put, List.setIfInBounds_toArray, List.set_cons_zero, List.set_cons_succ]
        refine next_two (i := 5) (j := 6) (o := ⟨some 34, _, _, _, _, _⟩) (o' := ⟨some 12, _, _, _, _, _⟩) (by kernel_rfl) rfl (by rfl) rfl (by rfl) (fun K hK => ?_) (fun K hK => ?_)
        · go_simp
          refine (made_any x y z A2 l2 n2 c2 2 _ HV2_2.out HL2.out).mono ?_
          rintro e V3 ⟨T, Y, rfl, hgood, hY, hin, hk⟩
          rw [HDD.out] at hgood
          have HMT := hide hgood
          have HYX := hide hY
          unfold Rg.val
          have hi := hin [g7] (by intro i hi; simp at hi; have := HG7_2.out.lt; omega)
          clear hgood hY hin
          clear HV2_2
          have HK_3 := hide (HK_2.out.trans hk (by simp))
          have HA_3 := hide (hk.blk HA_2.out (by simp))
          have HG_3 := hide (HG_2.out.kept hk)
          have HG7_3 := hide (hk.blk HG7_2.out (by simp))
          have HIS_3 := hide (HIS_2.out.kept hk (by simp))
          clear HK_2 HA_2 HG_2 HG7_2 HIS_2
          have HIT_3 := hide hi
          clear hk hi
          refine hK _ _ ⟨HA_3.out.cell 0, HA_3.out.cell 1, HA_3.out.cell 2⟩ ?_
          clear hK K
          try simp only [Act.put, List.setIfInBounds_toArray, List.set_cons_zero, List.set_cons_succ]
          refine next_one (i := 6) (o := ⟨some 12, _, _, _, _, _⟩) (by kernel_rfl) rfl (by rfl) (fun K hK => ?_)
          go_simp
          have hb : Blk (V3.alloc (.cells #[.int .i64 0, .int .i64 0, .int .i64 0, .int .i64 0, .int .i64 0, .int .i64 0, .int .i64 0, .int .i64 0, .int .i64 0, .int .i64 0, .int .i64 0, .slice none 0 0, .slice none 0 0, .slice none 0 0] 28)) V3.heap.size 28 (Rg.zero.cells Sl.zero) := Blk.new V3 _ _
          have hk : Kept [] V3 (V3.alloc (.cells #[.int .i64 0, .int .i64 0, .int .i64 0, .int .i64 0, .int .i64 0, .int .i64 0, .int .i64 0, .int .i64 0, .int .i64 0, .int .i64 0, .int .i64 0, .slice none 0 0, .slice none 0 0, .slice none 0 0] 28)) := (Kept.refl [] V3).alloc _
          obtain ⟨g6, hg⟩ : ∃ g6, V3.heap.size = g6 := ⟨_, rfl⟩
          have ha6 : a ≠ g6 := by have := HA_3.out.lt; omega
          have hG6 : G ≠ g6 := by have := HG_3.out.lt; omega
          have hz6 : w.heap.size ≤ g6 := by have := HK_3.out.size; omega
          have h67 : g6 ≠ g7 := by have := HG7_3.out.lt; omega
          have hIS := HIS_3.out.away (S' := [g6, g7]) (by intro i hi; simp at hi ⊢; omega)
          clear HIS_3
          have HIS_3 := hide hIS
          clear hIS
          have hIT := HIT_3.out.away (S' := [g6, g7]) (by intro i hi; simp at hi ⊢; omega)
          clear HIT_3
          have HIT_3 := hide hIT
          clear hIT
          rw [hg] at hb ⊢
          generalize V3.alloc (.cells #[.int .i64 0, .int .i64 0, .int .i64 0, .int .i64 0, .int .i64 0, .int .i64 0, .int .i64 0, .int .i64 0, .int .i64 0, .int .i64 0, .int .i64 0, .slice none 0 0, .slice none 0 0, .slice none 0 0] 28) = V4 at hb hk ⊢
          have HK_4 := hide (HK_3.out.trans hk (by simp))
          have HA_4 := hide (hk.blk HA_3.out (by simp))
          have HG_4 := hide (HG_3.out.kept hk)
          have HG7_4 := hide (hk.blk HG7_3.out (by simp))
          have HIS_4 := hide (HIS_3.out.kept hk (by simp))
          have HIT_4 := hide (HIT_3.out.kept hk (by simp))
          clear HK_3 HA_3 HG_3 HG7_3 HIS_3 HIT_3
          have HG6_4 := hide hb
          clear hk hb hg
          refine hK _ _ ⟨HA_4.out.cell 0, HA_4.out.cell 1, HA_4.out.cell 2⟩ ?_
          clear hK K
          try simp only [Act.put, List.setIfInBounds_toArray, List.set_cons_zero, List.set_cons_succ]
          refine next_one (i := 8) (o := ⟨none, _, _, _, _, _⟩) (by kernel_rfl) rfl (by rfl) (fun K hK => ?_)
          obtain ⟨d0, d1, d2, d3, d4, d5, d6, d7, d8, d9, d10, d11, d12, d13⟩ := cell14 (HG6_4.out)
          have f0 := HG6_4.out.frozen 0
          have f1 := HG6_4.out.frozen 1
          have f2 := HG6_4.out.frozen 2
          have f3 := HG6_4.out.frozen 3
          have f4 := HG6_4.out.frozen 4
          have f5 := HG6_4.out.frozen 5
          have f6 := HG6_4.out.frozen 6
          have f7 := HG6_4.out.frozen 7
          have f8 := HG6_4.out.frozen 8
          have f9 := HG6_4.out.frozen 9
          have f10 := HG6_4.out.frozen 10
          have f11 := HG6_4.out.frozen 11
          have f12 := HG6_4.out.frozen 12
          have f13 := HG6_4.out.frozen 13
          have hb := put14_at S X HG6_4.out
          have hk := put14_kept (S := [g6]) (g := g6) S X (Kept.refl [g6] V4) (.inl (by simp))
          have HPE := hide (put14_eq V4 g6 S X)
          go_simp
          rw [HPE.out]
          clear HPE d0 f0 d1 f1 d2 f2 d3 f3 d4 f4 d5 f5 d6 f6 d7 f7 d8 f8 d9 f9 d10 f10 d11 f11 d12 f12 d13 f13
          generalize put14 V4 g6 S X = V5 at hb hk ⊢
          have HK_5 := hide (HK_4.out.trans hk (by simp; exact hz6))
          have HA_5 := hide (hk.blk HA_4.out (by simp; exact ha6))
          have HG_5 := hide (HG_4.out.kept hk (by simp; exact hG6))
          have HG7_5 := hide (hk.blk HG7_4.out (by simp; exact Ne.symm h67))
          have HIS_5 := hide (HIS_4.out.kept hk (by simp))
          have HIT_5 := hide (HIT_4.out.kept hk (by simp))
          clear HK_4 HA_4 HG_4 HG7_4 HIS_4 HIT_4 HG6_4
          have HG6_5 := hide hb
          clear hb hk
          refine hK _ _ ⟨HA_5.out.cell 0, HA_5.out.cell 1, HA_5.out.cell 2⟩ ?_
          clear hK K
          try simp only [Act.put, List.setIfInBounds_toArray, List.set_cons_zero, List.set_cons_succ]
          refine next_one (i := 9) (o := ⟨none, _, _, _, _, _⟩) (by kernel_rfl) rfl (by rfl) (fun K hK => ?_)
          obtain ⟨d0, d1, d2, d3, d4, d5, d6, d7, d8, d9, d10, d11, d12, d13⟩ := cell14 (HG7_5.out)
          have f0 := HG7_5.out.frozen 0
          have f1 := HG7_5.out.frozen 1
          have f2 := HG7_5.out.frozen 2
          have f3 := HG7_5.out.frozen 3
          have f4 := HG7_5.out.frozen 4
          have f5 := HG7_5.out.frozen 5
          have f6 := HG7_5.out.frozen 6
          have f7 := HG7_5.out.frozen 7
          have f8 := HG7_5.out.frozen 8
          have f9 := HG7_5.out.frozen 9
          have f10 := HG7_5.out.frozen 10
          have f11 := HG7_5.out.frozen 11
          have f12 := HG7_5.out.frozen 12
          have f13 := HG7_5.out.frozen 13
          have hb := put14_at T Y HG7_5.out
          have hk := put14_kept (S := [g7]) (g := g7) T Y (Kept.refl [g7] V5) (.inl (by simp))
          have HPE := hide (put14_eq V5 g7 T Y)
          go_simp
          rw [HPE.out]
          clear HPE d0 f0 d1 f1 d2 f2 d3 f3 d4 f4 d5 f5 d6 f6 d7 f7 d8 f8 d9 f9 d10 f10 d11 f11 d12 f12 d13 f13
          generalize put14 V5 g7 T Y = V6 at hb hk ⊢
          have HK_6 := hide (HK_5.out.trans hk (by simp; exact hz7))
          have HA_6 := hide (hk.blk HA_5.out (by simp; exact ha7))
          have HG_6 := hide (HG_5.out.kept hk (by simp; exact hG7))
          have HIS_6 := hide (HIS_5.out.kept hk (by simp))
          have HIT_6 := hide (HIT_5.out.kept hk (by simp))
          have HG6_6 := hide (hk.blk HG6_5.out (by simp; exact h67))
          clear HK_5 HA_5 HG_5 HG7_5 HIS_5 HIT_5 HG6_5
          have HG7_6 := hide hb
          clear hb hk
          refine hK _ _ ⟨HA_6.out.cell 0, HA_6.out.cell 1, HA_6.out.cell 2⟩ ?_
          clear hK K
          try simp only [Act.put, List.setIfInBounds_toArray, List.set_cons_zero, List.set_cons_succ]
          refine wpAnyH_done (by kernel_rfl) ?_ _
          refine NoPanic.normal ?_
          go_wp2_with fail
          go_meet
          exact ⟨S, T, X, Y, g6, g7, rfl, rfl, HMS, HMT, HXX, HYX, HK_6, HG_6, hide HIS_6.out.at_, hide HIT_6.out.at_, HG6_6, HG7_6⟩
        · go_simp
          have hb : Blk (V2.alloc (.cells #[.int .i64 0, .int .i64 0, .int .i64 0, .int .i64 0, .int .i64 0, .int .i64 0, .int .i64 0, .int .i64 0, .int .i64 0, .int .i64 0, .int .i64 0, .slice none 0 0, .slice none 0 0, .slice none 0 0] 28)) V2.heap.size 28 (Rg.zero.cells Sl.zero) := Blk.new V2 _ _
          have hk : Kept [] V2 (V2.alloc (.cells #[.int .i64 0, .int .i64 0, .int .i64 0, .int .i64 0, .int .i64 0, .int .i64 0, .int .i64 0, .int .i64 0, .int .i64 0, .int .i64 0, .int .i64 0, .slice none 0 0, .slice none 0 0, .slice none 0 0] 28)) := (Kept.refl [] V2).alloc _
          obtain ⟨g6, hg⟩ : ∃ g6, V2.heap.size = g6 := ⟨_, rfl⟩
          have ha6 : a ≠ g6 := by have := HA_2.out.lt; omega
          have hG6 : G ≠ g6 := by have := HG_2.out.lt; omega
          have hz6 : w.heap.size ≤ g6 := by have := HK_2.out.size; omega
          have h67 : g6 ≠ g7 := by have := HG7_2.out.lt; omega
          have hIS := HIS_2.out.away (S' := [g6, g7]) (by intro i hi; simp at hi ⊢; omega)
          clear HIS_2
          have HIS_2 := hide hIS
          clear hIS
          rw [hg] at hb ⊢
          generalize V2.alloc (.cells #[.int .i64 0, .int .i64 0, .int .i64 0, .int .i64 0, .int .i64 0, .int .i64 0, .int .i64 0, .int .i64 0, .int .i64 0, .int .i64 0, .int .i64 0, .slice none 0 0, .slice none 0 0, .slice none 0 0] 28) = V3 at hb hk ⊢
          have HK_3 := hide (HK_2.out.trans hk (by simp))
          have HA_3 := hide (hk.blk HA_2.out (by simp))
          have HG_3 := hide (HG_2.out.kept hk)
          have HV2_3 := hide (HV2_2.out.kept hk (by simp))
          have HG7_3 := hide (hk.blk HG7_2.out (by simp))
          have HIS_3 := hide (HIS_2.out.kept hk (by simp))
          clear HK_2 HA_2 HG_2 HV2_2 HG7_2 HIS_2
          have HG6_3 := hide hb
          clear hk hb hg
          refine hK _ _ ⟨HA_3.out.cell 0, HA_3.out.cell 1, HA_3.out.cell 2⟩ ?_
          clear hK K
          try simp only [Act.put, List.setIfInBounds_toArray, List.set_cons_zero, List.set_cons_succ]
          refine next_one (i := 5) (o := ⟨some 34, _, _, _, _, _⟩) (by kernel_rfl) rfl (by rfl) (fun K hK => ?_)
          go_simp
          refine (made_any x y z A2 l2 n2 c2 2 _ HV2_3.out HL2.out).mono ?_
          rintro e V4 ⟨T, Y, rfl, hgood, hY, hin, hk⟩
          rw [HDD.out] at hgood
          have HMT := hide hgood
          have HYX := hide hY
          unfold Rg.val
          have hi := hin [g6, g7] (by intro i hi; simp at hi; have := HG7_3.out.lt; have := HG6_3.out.lt; omega)
          clear hgood hY hin
          clear HV2_3
          have HK_4 := hide (HK_3.out.trans hk (by simp))
          have HA_4 := hide (hk.blk HA_3.out (by simp))
          have HG_4 := hide (HG_3.out.kept hk)
          have HG7_4 := hide (hk.blk HG7_3.out (by simp))
          have HIS_4 := hide (HIS_3.out.kept hk (by simp))
          have HG6_4 := hide (hk.blk HG6_3.out (by simp))
          clear HK_3 HA_3 HG_3 HG7_3 HIS_3 HG6_3
          have HIT_4 := hide hi
          clear hk hi
          refine hK _ _ ⟨HA_4.out.cell 0, HA_4.out.cell 1, HA_4.out.cell 2⟩ ?_
          clear hK K
          try simp only [Act.put, List.setIfInBounds_toArray, List.set_cons_zero, List.set_cons_succ]
          refine next_one (i := 8) (o := ⟨none, _, _, _, _, _⟩) (by kernel_rfl) rfl (by rfl) (fun K hK => ?_)
          obtain ⟨d0, d1, d2, d3, d4, d5, d6, d7, d8, d9, d10, d11, d12, d13⟩ := cell14 (HG6_4.out)
          have f0 := HG6_4.out.frozen 0
          have f1 := HG6_4.out.frozen 1
          have f2 := HG6_4.out.frozen 2
          have f3 := HG6_4.out.frozen 3
          have f4 := HG6_4.out.frozen 4
          have f5 := HG6_4.out.frozen 5
          have f6 := HG6_4.out.frozen 6
          have f7 := HG6_4.out.frozen 7
          have f8 := HG6_4.out.frozen 8
          have f9 := HG6_4.out.frozen 9
          have f10 := HG6_4.out.frozen 10
          have f11 := HG6_4.out.frozen 11
          have f12 := HG6_4.out.frozen 12
          have f13 := HG6_4.out.frozen 13
          have hb := put14_at S X HG6_4.out
          have hk := put14_kept (S := [g6]) (g := g6) S X (Kept.refl [g6] V4) (.inl (by simp))
          have HPE := hide (put14_eq V4 g6 S X)
          go_simp
          rw [HPE.out]
          clear HPE d0 f0 d1 f1 d2 f2 d3 f3 d4 f4 d5 f5 d6 f6 d7 f7 d8 f8 d9 f9 d10 f10 d11 f11 d12 f12 d13 f13
          generalize put14 V4 g6 S X = V5 at hb hk ⊢
          have HK_5 := hide (HK_4.out.trans hk (by simp; exact hz6))
          have HA_5 := hide (hk.blk HA_4.out (by simp; exact ha6))
          have HG_5 := hide (HG_4.out.kept hk (by simp; exact hG6))
          have HG7_5 := hide (hk.blk HG7_4.out (by simp; exact Ne.symm h67))
          have HIS_5 := hide (HIS_4.out.kept hk (by simp))
          have HIT_5 := hide (HIT_4.out.kept hk (by simp))
          clear HK_4 HA_4 HG_4 HG7_4 HIS_4 HG6_4 HIT_4
          have HG6_5 := hide hb
          clear hb hk
          refine hK _ _ ⟨HA_5.out.cell 0, HA_5.out.cell 1, HA_5.out.cell 2⟩ ?_
          clear hK K
          try simp only [Act.put, List.setIfInBounds_toArray, List.set_cons_zero, List.set_cons_succ]
          refine next_one (i := 9) (o := ⟨none, _, _, _, _, _⟩) (by kernel_rfl) rfl (by rfl) (fun K hK => ?_)
          obtain ⟨d0, d1, d2, d3, d4, d5, d6, d7, d8, d9, d10, d11, d12, d13⟩ := cell14 (HG7_5.out)
          have f0 := HG7_5.out.frozen 0
          have f1 := HG7_5.out.frozen 1
          have f2 := HG7_5.out.frozen 2
          have f3 := HG7_5.out.frozen 3
          have f4 := HG7_5.out.frozen 4
          have f5 := HG7_5.out.frozen 5
          have f6 := HG7_5.out.frozen 6
          have f7 := HG7_5.out.frozen 7
          have f8 := HG7_5.out.frozen 8
          have f9 := HG7_5.out.frozen 9
          have f10 := HG7_5.out.frozen 10
          have f11 := HG7_5.out.frozen 11
          have f12 := HG7_5.out.frozen 12
          have f13 := HG7_5.out.frozen 13
          have hb := put14_at T Y HG7_5.out
          have hk := put14_kept (S := [g7]) (g := g7) T Y (Kept.refl [g7] V5) (.inl (by simp))
          have HPE := hide (put14_eq V5 g7 T Y)
          go_simp
          rw [HPE.out]
          clear HPE d0 f0 d1 f1 d2 f2 d3 f3 d4 f4 d5 f5 d6 f6 d7 f7 d8 f8 d9 f9 d10 f10 d11 f11 d12 f12 d13 f13
          generalize put14 V5 g7 T Y = V6 at hb hk ⊢
          have HK_6 := hide (HK_5.out.trans hk (by simp; exact hz7))
          have HA_6 := hide (hk.blk HA_5.out (by simp; exact ha7))
          have HG_6 := hide (HG_5.out.kept hk (by simp; exact hG7))
          have HIS_6 := hide (HIS_5.out.kept hk (by simp))
          have HG6_6 := hide (hk.blk HG6_5.out (by simp; exact h67))
          have HIT_6 := hide (HIT_5.out.kept hk (by simp))
          clear HK_5 HA_5 HG_5 HG7_5 HIS_5 HG6_5 HIT_5
          have HG7_6 := hide hb
          clear hb hk
          refine hK _ _ ⟨HA_6.out.cell 0, HA_6.out.cell 1, HA_6.out.cell 2⟩ ?_
          clear hK K
          try simp only [Act.put, List.setIfInBounds_toArray, List.set_cons_zero, List.set_cons_succ]
          refine wpAnyH_done (by kernel_rfl) ?_ _
          refine NoPanic.normal ?_
          go_wp2_with fail
          go_meet
          exact ⟨S, T, X, Y, g6, g7, rfl, rfl, HMS, HMT, HXX, HYX, HK_6, HG_6, hide HIS_6.out.at_, hide HIT_6.out.at_, HG6_6, HG7_6⟩
      · go_simp
        have hb : Blk (V1.alloc (.cells #[.int .i64 0, .int .i64 0, .int .i64 0, .int .i64 0, .int .i64 0, .int .i64 0, .int .i64 0, .int .i64 0, .int .i64 0, .int .i64 0, .int .i64 0, .slice none 0 0, .slice none 0 0, .slice none 0 0] 28)) V1.heap.size 28 (Rg.zero.cells Sl.zero) := Blk.new V1 _ _
        have hk : Kept [] V1 (V1.alloc (.cells #[.int .i64 0, .int .i64 0, .int .i64 0, .int .i64 0, .int .i64 0, .int .i64 0, .int .i64 0, .int .i64 0, .int .i64 0, .int .i64 0, .int .i64 0, .slice none 0 0, .slice none 0 0, .slice none 0 0] 28)) := (Kept.refl [] V1).alloc _
        obtain ⟨g6, hg⟩ : ∃ g6, V1.heap.size = g6 := ⟨_, rfl⟩
        have ha6 : a ≠ g6 := by have := HA_1.out.lt; omega
        have hG6 : G ≠ g6 := by have := HG_1.out.lt; omega
        have hz6 : w.heap.size ≤ g6 := by have := HK_1.out.size; omega
        have h67 : g6 ≠ g7 := by have := HG7_1.out.lt; omega
        rw [hg] at hb ⊢
        generalize V1.alloc (.cells #[.int .i64 0, .int .i64 0, .int .i64 0, .int .i64 0, .int .i64 0, .int .i64 0, .int .i64 0, .int .i64 0, .int .i64 0, .int .i64 0, .int .i64 0, .slice none 0 0, .slice none 0 0, .slice none 0 0] 28) = V2 at hb hk ⊢
        have HK_2 := hide (HK_1.out.trans hk (by simp))
        have HA_2 := hide (hk.blk HA_1.out (by simp))
        have HG_2 := hide (HG_1.out.kept hk)
        have HV1_2 := hide (HV1_1.out.kept hk (by simp))
        have HV2_2 := hide (HV2_1.out.kept hk (by simp))
        have HG7_2 := hide (hk.blk HG7_1.out (by simp))
        clear HK_1 HA_1 HG_1 HV1_1 HV2_1 HG7_1
        have HG6_2 := hide hb
        clear hk hb hg
        refine hK _ _ ⟨HA_2.out.cell 0, HA_2.out.cell 1, HA_2.out.cell 2⟩ ?_
        clear hK K
        try simp only [Act.put, List.setIfInBounds_toArray, List.set_cons_zero, List.set_cons_succ]
        refine next_one (i := 2) (o := ⟨some 31, _, _, _, _, _⟩) (by kernel_rfl) rfl (by rfl) (fun K hK => ?_)
        go_simp
        refine (made_any x y z A1 l1 n1 c1 1 _ HV1_2.out HL1.out).mono ?_
        rintro e V3 ⟨S, X, rfl, hgood, hX, hin, hk⟩
        rw [HDD.out] at hgood
        have HMS := hide hgood
        have HXX := hide hX
        unfold Rg.val
        have hi := hin [g6, g7] (by intro i hi; simp at hi; have := HG7_2.out.lt; have := HG6_2.out.lt; omega)
        clear hgood hX hin
        clear HV1_2
        have HK_3 := hide (HK_2.out.trans hk (by simp))
        have HA_3 := hide (hk.blk HA_2.out (by simp))
        have HG_3 := hide (HG_2.out.kept hk)
        have HV2_3 := hide (HV2_2.out.kept hk (by simp))
        have HG7_3 := hide (hk.blk HG7_2.out (by simp))
        have HG6_3 := hide (hk.blk HG6_2.out (by simp))
        clear HK_2 HA_2 HG_2 HV2_2 HG7_2 HG6_2
        have HIS_3 := hide hi
        clear hk hi
        refine hK _ _ ⟨HA_3.out.cell 0, HA_3.out.cell 1, HA_3.out.cell 2⟩ ?_
        clear hK K
        try simp only [Act.put, List.setIfInBounds_toArray, List.set_cons_zero, List.set_cons_succ]
        refine next_one (i := 5) (o := ⟨some 34, _, _, _, _, _⟩) (by kernel_rfl) rfl (by rfl) (fun K hK => ?_)
        go_simp
        refine (made_any x y z A2 l2 n2 c2 2 _ HV2_3.out HL2.out).mono ?_
        rintro e V4 ⟨T, Y, rfl, hgood, hY, hin, hk⟩
        rw [HDD.out] at hgood
        have HMT := hide hgood
        have HYX := hide hY
        unfold Rg.val
        have hi := hin [g6, g7] (by intro i hi; simp at hi; have := HG7_3.out.lt; have := HG6_3.out.lt; omega)
        clear hgood hY hin
        clear HV2_3
        have HK_4 := hide (HK_3.out.trans hk (by simp))
        have HA_4 := hide (hk.blk HA_3.out (by simp))
        have HG_4 := hide (HG_3.out.kept hk)
        have HG7_4 := hide (hk.blk HG7_3.out (by simp))
        have HG6_4 := hide (hk.blk HG6_3.out (by simp))
        have HIS_4 := hide (HIS_3.out.kept hk (by simp))
        clear HK_3 HA_3 HG_3 HG7_3 HG6_3 HIS_3
        have HIT_4 := hide hi
        clear hk hi
        refine hK _ _ ⟨HA_4.out.cell 0, HA_4.out.cell 1, HA_4.out.cell 2⟩ ?_
        clear hK K
        try simp only [Act.put, List.setIfInBounds_toArray, List.set_cons_zero, List.set_cons_succ]
        refine next_one (i := 8) (o := ⟨none, _, _, _, _, _⟩) (by kernel_rfl) rfl (by rfl) (fun K hK => ?_)
        obtain ⟨d0, d1, d2, d3, d4, d5, d6, d7, d8, d9, d10, d11, d12, d13⟩ := cell14 (HG6_4.out)
        have f0 := HG6_4.out.frozen 0
        have f1 := HG6_4.out.frozen 1
        have f2 := HG6_4.out.frozen 2
        have f3 := HG6_4.out.frozen 3
        have f4 := HG6_4.out.frozen 4
        have f5 := HG6_4.out.frozen 5
        have f6 := HG6_4.out.frozen 6
        have f7 := HG6_4.out.frozen 7
        have f8 := HG6_4.out.frozen 8
        have f9 := HG6_4.out.frozen 9
        have f10 := HG6_4.out.frozen 10
        have f11 := HG6_4.out.frozen 11
        have f12 := HG6_4.out.frozen 12
        have f13 := HG6_4.out.frozen 13
        have hb := put14_at S X HG6_4.out
        have hk := put14_kept (S := [g6]) (g := g6) S X (Kept.refl [g6] V4) (.inl (by simp))
        have HPE := hide (put14_eq V4 g6 S X)
        go_simp
        rw [HPE.out]
        clear HPE d0 f0 d1 f1 d2 f2 d3 f3 d4 f4 d5 f5 d6 f6 d7 f7 d8 f8 d9 f9 d10 f10 d11 f11 d12 f12 d13 f13
        generalize put14 V4 g6 S X = V5 at hb hk ⊢
        have HK_5 := hide (HK_4.out.trans hk (by simp; exact hz6))
        have HA_5 := hide (hk.blk HA_4.out (by simp; exact ha6))
        have HG_5 := hide (HG_4.out.kept hk (by simp; exact hG6))
        have HG7_5 := hide (hk.blk HG7_4.out (by simp; exact Ne.symm h67))
        have HIS_5 := hide (HIS_4.out.kept hk (by simp))
        have HIT_5 := hide (HIT_4.out.kept hk (by simp))
        clear HK_4 HA_4 HG_4 HG7_4 HG6_4 HIS_4 HIT_4
        have HG6_5 := hide hb
        clear hb hk
        refine hK _ _ ⟨HA_5.out.cell 0, HA_5.out.cell 1, HA_5.out.cell 2⟩ ?_
        clear hK K
        try simp only [Act.put, List.setIfInBounds_toArray, List.set_cons_zero, List.set_cons_succ]
        refine next_one (i := 9) (o := ⟨none, _, _, _, _, _⟩) (by kernel_rfl) rfl (by rfl) (fun K hK => ?_)
        obtain ⟨d0, d1, d2, d3, d4, d5, d6, d7, d8, d9, d10, d11, d12, d13⟩ := cell14 (HG7_5.out)
        have f0 := HG7_5.out.frozen 0
        have f1 := HG7_5.out.frozen 1
        have f2 := HG7_5.out.frozen 2
        have f3 := HG7_5.out.frozen 3
        have f4 := HG7_5.out.frozen 4
        have f5 := HG7_5.out.frozen 5
        have f6 := HG7_5.out.frozen 6
        have f7 := HG7_5.out.frozen 7
        have f8 := HG7_5.out.frozen 8
        have f9 := HG7_5.out.frozen 9
        have f10 := HG7_5.out.frozen 10
        have f11 := HG7_5.out.frozen 11
        have f12 := HG7_5.out.frozen 12
        have f13 := HG7_5.out.frozen 13
        have hb := put14_at T Y HG7_5.out
        have hk := put14_kept (S := [g7]) (g := g7) T Y (Kept.refl [g7] V5) (.inl (by simp))
        have HPE := hide (put14_eq V5 g7 T Y)
        go_simp
        rw [HPE.out]
        clear HPE d0 f0 d1 f1 d2 f2 d3 f3 d4 f4 d5 f5 d6 f6 d7 f7 d8 f8 d9 f9 d10 f10 d11 f11 d12 f12 d13 f13
        generalize put14 V5 g7 T Y = V6 at hb hk ⊢
        have HK_6 := hide (HK_5.out.trans hk (by simp; exact hz7))
        have HA_6 := hide (hk.blk HA_5.out (by simp; exact ha7))
        have HG_6 := hide (HG_5.out.kept hk (by simp; exact hG7))
        have HG6_6 := hide (hk.blk HG6_5.out (by simp; exact h67))
        have HIS_6 := hide (HIS_5.out.kept hk (by simp))
        have HIT_6 := hide (HIT_5.out.kept hk (by simp))
        clear HK_5 HA_5 HG_5 HG7_5 HG6_5 HIS_5 HIT_5
        have HG7_6 := hide hb
        clear hb hk
        refine hK _ _ ⟨HA_6.out.cell 0, HA_6.out.cell 1, HA_6.out.cell 2⟩ ?_
        clear hK K
        try simp only [Act.put, List.setIfInBounds_toArray, List.set_cons_zero, List.set_cons_succ]
        refine wpAnyH_done (by kernel_rfl) ?_ _
        refine NoPanic.normal ?_
        go_wp2_with fail
        go_meet
        exact ⟨S, T, X, Y, g6, g7, rfl, rfl, HMS, HMT, HXX, HYX, HK_6, HG_6, hide HIS_6.out.at_, hide HIT_6.out.at_, HG6_6, HG7_6⟩
  case rest => as_aux_lemma =>
    obtain ⟨S, T, X, Y, g6, g7, rfl, rfl, HS, HT, HXX, HYX0, HK_1, HG_1, HIS_1, HIT_1, HQ6_1, HQ7_1⟩ := hcut
    have HMS := hide ((S.may_iff D).2 HS.out)
    have HMT := hide ((T.may_iff D).2 HT.out)
    have HXL : Hid ((S.bytes D).length = N) := hide (by rw [Rg.bytes_len HD.out HS.out, HN.out])
    have HYL : Hid ((T.bytes D).length = N) := hide (by rw [Rg.bytes_len HD.out HT.out, HN.out])
    obtain ⟨d0, d1, d2, d3, d4, d5, d6, d7, d8, d9, d10, d11, d12, d13⟩ := cell14 HQ6_1.out
    go_wp2_with fail
    refine (encode_yes G D S X _ HG_1.out HIS_1.out HXX.out HMS.out).mono ?_
    rintro e V2 ⟨Ax, cx, rfl, hn, hk⟩
    rw [HN.out]
    obtain ⟨bx, rfl, hbx0, harr⟩ := hn.pos (by rw [HXL.out]; omega)
    have hgx : g6 ≠ bx := by have := HQ6_1.out.lt; omega
    have hqx : g7 ≠ bx := by have := HQ7_1.out.lt; omega
    have hGx : G ≠ bx := by have := HG_1.out.lt; omega
    have hbx : w.heap.size ≤ bx := by have := HK_1.out.size; omega
    have hlx := harr.lt
    have hcx : N ≤ cx := by have := harr.len; rw [HXL.out] at this; exact this
    have HEX_2 := hide harr
    have HK_2 := hide (HK_1.out.trans hk (by simp))
    have HG_2 := hide (HG_1.out.kept hk)
    have HIS_2 := hide (HIS_1.out.far (S := [bx]) hk (by intro i hi; simp at hi; omega))
    have HIT_2 := hide (HIT_1.out.far (S := [bx]) hk (by intro i hi; simp at hi; omega))
    have HQ6_2 := hide (hk.blk HQ6_1.out (by simp))
    have HQ7_2 := hide (hk.blk HQ7_1.out (by simp))
    clear hk hn harr HK_1 HG_1 HIS_1 HIT_1 HQ6_1 HQ7_1 hbx0 d0 d1 d2 d3 d4 d5 d6 d7 d8 d9 d10 d11 d12 d13
    obtain ⟨t0, t1, t2, t3, t4, t5, t6, t7, t8, t9, t10, t11, t12, t13⟩ := cell14 HQ7_2.out
    go_wp2_with fail
    refine (encode_yes G D T Y _ HG_2.out HIT_2.out.at_ HYX0.out HMT.out).mono ?_
    rintro e V3 ⟨Ay, cy, rfl, hn, hk⟩
    rw [HN.out]
    obtain ⟨by', rfl, hby0, harr⟩ := hn.pos (by rw [HYL.out]; omega)
    have hgy : g6 ≠ by' := by have := HQ6_2.out.lt; omega
    have hqy : g7 ≠ by' := by have := HQ7_2.out.lt; omega
    have hGy : G ≠ by' := by have := HG_2.out.lt; omega
    have hxy : bx ≠ by' := by omega
    have hby : w.heap.size ≤ by' := by have := HK_2.out.size; omega
    have hcy : N ≤ cy := by have := harr.len; rw [HYL.out] at this; exact this
    have HEY_3 := hide harr
    have HEX_3 := hide (HEX_2.out.kept hk (by simp))
    have HK_3 := hide (HK_2.out.trans hk (by simp))
    have HG_3 := hide (HG_2.out.kept hk)
    have HIS_3 := hide ((HIS_2.out.away (S' := [bx, by']) (by intro i hi; simp at hi ⊢; omega)).kept hk (by simp))
    have HIT_3 := hide ((HIT_2.out.away (S' := [bx, by']) (by intro i hi; simp at hi ⊢; omega)).kept hk (by simp))
    have HQ6_3 := hide (hk.blk HQ6_2.out (by simp))
    have HQ7_3 := hide (hk.blk HQ7_2.out (by simp))
    clear hk hn harr hlx HK_2 HG_2 HIS_2 HIT_2 HQ6_2 HQ7_2 HEX_2 hby0 t0 t1 t2 t3 t4 t5 t6 t7 t8 t9 t10 t11 t12 t13
    obtain ⟨yx, hyx⟩ : ∃ v, (S.bytes D)[2]? = some v := ⟨_, List.getElem?_eq_getElem (by rw [HXL.out]; omega)⟩
    obtain ⟨yy, hyy⟩ : ∃ v, (T.bytes D)[M]? = some v := ⟨_, List.getElem?_eq_getElem (by rw [HYL.out]; exact HMlt.out)⟩
    have HYX := hide hyx
    have HYY := hide hyy
    obtain ⟨vx, hox, hvx⟩ := xor_four yx
    obtain ⟨vy, hoy, hvy⟩ := xor_one yy
    have HVX := hide hvx
    have HVY := hide hvy
    clear hyx hyy hvx hvy
    have q64 : ¬ (N : Int) < 64 := by omega
    have qd := decide_eq_false q64
    have q2 : 2 < N := by omega
    have q3 := HMlt.out
    have qm := G2.out
    obtain ⟨b1, b2, b3⟩ | ⟨b1, b2, b3⟩ | ⟨b1, b2, b3⟩ | ⟨b1, b2, b3⟩ := low2 t
    · by_cases hm : T.g > S.g
      · as_aux_lemma =>
          have HMM := hide hm
          clear hm
          have HC : Hid (rg.choose D (S.bytes D) (T.bytes D) = (T, 1, 0)) := hide ((choose_both _ _ (decode_bytes HD.out HS.out) (decode_bytes HD.out HT.out) HS.out.g.1).trans (if_pos HMM.out))
          go_wp2_with fail
          refine (choose_any G D (some ⟨bx, 0, none⟩) (some ⟨by', 0, none⟩) N N cx cy (S.bytes D) (T.bytes D) _ HG_3.out (HEX_3.out.vals (by simp)) HXL.out (by simp) (by omega) (HEY_3.out.vals (by simp)) HYL.out (by simp) (by omega)).mono ?_
          rintro e V6 ⟨P, rfl, hPs, hin, hk⟩
          rw [HC.out] at hin ⊢
          dsimp only at hin ⊢
          have hi := hin [] (by simp)
          obtain ⟨V7, hv7⟩ : ∃ V7, V6.alloc (.cells (T.cells P) 28) = V7 := ⟨_, rfl⟩
          have hk7 : Kept [] V6 V7 := by rw [← hv7]; exact (Kept.refl [] V6).alloc _
          have hb7 : Blk V7 V6.heap.size 28 (T.cells P) := by rw [← hv7]; exact Blk.new V6 _ _
          obtain ⟨zz, hzz⟩ : ∃ zz, V6.heap.size = zz := ⟨_, rfl⟩
          rw [hzz] at hb7
          have hk67 := hk.trans hk7 (by simp)
          have HK_7 := hide (HK_3.out.trans hk67 (by simp))
          have HIP_7 := hide (hi.kept hk7 (by simp))
          have HIS_7 := hide ((HIS_3.out.at_).kept hk67 (by simp))
          have HIT_7 := hide ((HIT_3.out.at_).kept hk67 (by simp))
          have HQ6_7 := hide (hk67.blk HQ6_3.out (by simp))
          have HQ7_7 := hide (hk67.blk HQ7_3.out (by simp))
          have HP_7 := hide hb7
          clear hk hk7 hk67 hb7 hin hi HEX_3 HEY_3 HK_3 HG_3 HIS_3 HIT_3 HQ6_3 HQ7_3
          unfold Rg.cells at hv7
          unfold Rg.val
          obtain ⟨s0, s1, s2, s3, s4, s5, s6, s7, s8, s9, s10, s11, s12, s13⟩ := cell14 HP_7.out
          obtain ⟨d0, d1, d2, d3, d4, d5, d6, d7, d8, d9, d10, d11, d12, d13⟩ := cell14 HQ6_7.out
          obtain ⟨t0, t1, t2, t3, t4, t5, t6, t7, t8, t9, t10, t11, t12, t13⟩ := cell14 HQ7_7.out
          have hmm := HMM.out
          go_wp2_with fail
          refine (same_any T P Y _ HIP_7.out HIT_7.out hPs).mono ?_
          rintro e V8 ⟨rfl, hk⟩
          have HK_8 := hide (HK_7.out.trans hk (by simp))
          clear hk hv7 s0 s1 s2 s3 s4 s5 s6 s7 s8 s9 s10 s11 s12 s13 d0 d1 d2 d3 d4 d5 d6 d7 d8 d9 d10 d11 d12 d13 t0 t1 t2 t3 t4 t5 t6 t7 t8 t9 t10 t11 t12 t13
          go_wp2_with fail
          refine (awake_any _).mono ?_
          rintro e V9 ⟨rfl, hk⟩
          have HK_9 := hide (HK_8.out.trans hk (by simp))
          clear hk
          go_wp2
          go_ret
          exact ⟨rfl, HK_9.out.below (by simp)⟩
      · as_aux_lemma =>
          have HMM := hide hm
          clear hm
          have HC : Hid (rg.choose D (S.bytes D) (T.bytes D) = (S, 0, 0)) := hide ((choose_both _ _ (decode_bytes HD.out HS.out) (decode_bytes HD.out HT.out) HS.out.g.1).trans (if_neg HMM.out))
          go_wp2_with fail
          refine (choose_any G D (some ⟨bx, 0, none⟩) (some ⟨by', 0, none⟩) N N cx cy (S.bytes D) (T.bytes D) _ HG_3.out (HEX_3.out.vals (by simp)) HXL.out (by simp) (by omega) (HEY_3.out.vals (by simp)) HYL.out (by simp) (by omega)).mono ?_
          rintro e V6 ⟨P, rfl, hPs, hin, hk⟩
          rw [HC.out] at hin ⊢
          dsimp only at hin ⊢
          have hi := hin [] (by simp)
          obtain ⟨V7, hv7⟩ : ∃ V7, V6.alloc (.cells (S.cells P) 28) = V7 := ⟨_, rfl⟩
          have hk7 : Kept [] V6 V7 := by rw [← hv7]; exact (Kept.refl [] V6).alloc _
          have hb7 : Blk V7 V6.heap.size 28 (S.cells P) := by rw [← hv7]; exact Blk.new V6 _ _
          obtain ⟨zz, hzz⟩ : ∃ zz, V6.heap.size = zz := ⟨_, rfl⟩
          rw [hzz] at hb7
          have hk67 := hk.trans hk7 (by simp)
          have HK_7 := hide (HK_3.out.trans hk67 (by simp))
          have HIP_7 := hide (hi.kept hk7 (by simp))
          have HIS_7 := hide ((HIS_3.out.at_).kept hk67 (by simp))
          have HIT_7 := hide ((HIT_3.out.at_).kept hk67 (by simp))
          have HQ6_7 := hide (hk67.blk HQ6_3.out (by simp))
          have HQ7_7 := hide (hk67.blk HQ7_3.out (by simp))
          have HP_7 := hide hb7
          clear hk hk7 hk67 hb7 hin hi HEX_3 HEY_3 HK_3 HG_3 HIS_3 HIT_3 HQ6_3 HQ7_3
          unfold Rg.cells at hv7
          unfold Rg.val
          obtain ⟨s0, s1, s2, s3, s4, s5, s6, s7, s8, s9, s10, s11, s12, s13⟩ := cell14 HP_7.out
          obtain ⟨d0, d1, d2, d3, d4, d5, d6, d7, d8, d9, d10, d11, d12, d13⟩ := cell14 HQ6_7.out
          obtain ⟨t0, t1, t2, t3, t4, t5, t6, t7, t8, t9, t10, t11, t12, t13⟩ := cell14 HQ7_7.out
          have hmm := HMM.out
          have hmd : decide (S.g < T.g) = false := decide_eq_false (Int.not_lt.2 (by omega))
          go_wp2_with fail
          refine (same_any S P X _ HIP_7.out HIS_7.out hPs).mono ?_
          rintro e V8 ⟨rfl, hk⟩
          have HK_8 := hide (HK_7.out.trans hk (by simp))
          clear hk hv7 s0 s1 s2 s3 s4 s5 s6 s7 s8 s9 s10 s11 s12 s13 d0 d1 d2 d3 d4 d5 d6 d7 d8 d9 d10 d11 d12 d13 t0 t1 t2 t3 t4 t5 t6 t7 t8 t9 t10 t11 t12 t13
          go_wp2_with fail
          refine (awake_any _).mono ?_
          rintro e V9 ⟨rfl, hk⟩
          have HK_9 := hide (HK_8.out.trans hk (by simp))
          clear hk
          go_wp2
          go_ret
          exact ⟨rfl, HK_9.out.below (by simp)⟩
    · as_aux_lemma =>
        have HC : Hid (rg.choose D ((S.bytes D).set 2 vx) (T.bytes D) = (T, 1, 0)) := hide (choose_second _ _ (decode_first HD.out HS.out yx vx HYX.out HVX.out) (decode_bytes HD.out HT.out) HT.out.g.1)
        obtain ⟨V4, hsetV4⟩ : ∃ V4, V3.setCell ⟨bx, 2, none⟩ (.int .u8 (vx.toNat : Int)) = V4 := ⟨_, rfl⟩
        have hcV4 : V3.cell? ⟨bx, 2, none⟩ = some (.int .u8 (yx.toNat : Int)) := HEX_3.out.at_ HYX.out
        have hfV4 := HEX_3.out.frozen 2
        have hk : Kept [bx] V3 V4 := by rw [← hsetV4]; exact (Kept.refl [bx] V3).set_ (b := bx) (.inl (by simp)) 2 _
        have HEX_4 : Hid (Arr V4 bx cx ((S.bytes D).set 2 vx)) := by rw [← hsetV4]; exact hide (HEX_3.out.set_ (i := 2) vx)
        have HEY_4 := hide (HEY_3.out.kept hk (by simp; exact Ne.symm hxy))
        have HK_4 := hide (HK_3.out.trans hk (by simp; exact hbx))
        have HG_4 := hide (HG_3.out.kept hk (by simp; exact hGx))
        have HIS_4 := hide (HIS_3.out.kept hk (by simp))
        have HIT_4 := hide (HIT_3.out.kept hk (by simp))
        have HQ6_4 := hide (hk.blk HQ6_3.out (by simp; exact hgx))
        have HQ7_4 := hide (hk.blk HQ7_3.out (by simp; exact hqx))
        clear hk HEX_3 HEY_3 HK_3 HG_3 HIS_3 HIT_3 HQ6_3 HQ7_3
        go_wp2_with fail
        refine (choose_any G D (some ⟨bx, 0, none⟩) (some ⟨by', 0, none⟩) N N cx cy ((S.bytes D).set 2 vx) (T.bytes D) _ HG_4.out (HEX_4.out.vals (by simp)) (by rw [List.length_set]; exact HXL.out) (by simp) (by omega) (HEY_4.out.vals (by simp)) HYL.out (by simp) (by omega)).mono ?_
        rintro e V6 ⟨P, rfl, hPs, hin, hk⟩
        rw [HC.out] at hin ⊢
        dsimp only at hin ⊢
        have hi := hin [] (by simp)
        clear hcV4 hfV4 hsetV4
        obtain ⟨V7, hv7⟩ : ∃ V7, V6.alloc (.cells (T.cells P) 28) = V7 := ⟨_, rfl⟩
        have hk7 : Kept [] V6 V7 := by rw [← hv7]; exact (Kept.refl [] V6).alloc _
        have hb7 : Blk V7 V6.heap.size 28 (T.cells P) := by rw [← hv7]; exact Blk.new V6 _ _
        obtain ⟨zz, hzz⟩ : ∃ zz, V6.heap.size = zz := ⟨_, rfl⟩
        rw [hzz] at hb7
        have hk67 := hk.trans hk7 (by simp)
        have HK_7 := hide (HK_4.out.trans hk67 (by simp))
        have HIP_7 := hide (hi.kept hk7 (by simp))
        have HIS_7 := hide ((HIS_4.out.at_).kept hk67 (by simp))
        have HIT_7 := hide ((HIT_4.out.at_).kept hk67 (by simp))
        have HQ6_7 := hide (hk67.blk HQ6_4.out (by simp))
        have HQ7_7 := hide (hk67.blk HQ7_4.out (by simp))
        have HP_7 := hide hb7
        clear hk hk7 hk67 hb7 hin hi HEX_4 HEY_4 HK_4 HG_4 HIS_4 HIT_4 HQ6_4 HQ7_4
        unfold Rg.cells at hv7
        unfold Rg.val
        obtain ⟨s0, s1, s2, s3, s4, s5, s6, s7, s8, s9, s10, s11, s12, s13⟩ := cell14 HP_7.out
        obtain ⟨d0, d1, d2, d3, d4, d5, d6, d7, d8, d9, d10, d11, d12, d13⟩ := cell14 HQ6_7.out
        obtain ⟨t0, t1, t2, t3, t4, t5, t6, t7, t8, t9, t10, t11, t12, t13⟩ := cell14 HQ7_7.out
        go_wp2_with fail
        refine (same_any T P Y _ HIP_7.out HIT_7.out hPs).mono ?_
        rintro e V8 ⟨rfl, hk⟩
        have HK_8 := hide (HK_7.out.trans hk (by simp))
        clear hk hv7 s0 s1 s2 s3 s4 s5 s6 s7 s8 s9 s10 s11 s12 s13 d0 d1 d2 d3 d4 d5 d6 d7 d8 d9 d10 d11 d12 d13 t0 t1 t2 t3 t4 t5 t6 t7 t8 t9 t10 t11 t12 t13
        go_wp2_with fail
        refine (awake_any _).mono ?_
        rintro e V9 ⟨rfl, hk⟩
        have HK_9 := hide (HK_8.out.trans hk (by simp))
        clear hk
        go_wp2
        go_ret
        exact ⟨rfl, HK_9.out.below (by simp)⟩
    · as_aux_lemma =>
        have HC : Hid (rg.choose D (S.bytes D) ((T.bytes D).set M vy) = (S, 0, 0)) := hide (choose_first _ _ (decode_bytes HD.out HS.out) (decode_last HD.out HT.out M (by rw [HMN.out, HN.out]) yy vy HYY.out HVY.out) HS.out.g.1)
        obtain ⟨V5, hsetV5⟩ : ∃ V5, V3.setCell ⟨by', M, none⟩ (.int .u8 (vy.toNat : Int)) = V5 := ⟨_, rfl⟩
        have hcV5 : V3.cell? ⟨by', M, none⟩ = some (.int .u8 (yy.toNat : Int)) := HEY_3.out.at_ HYY.out
        have hfV5 := HEY_3.out.frozen M
        have hk : Kept [by'] V3 V5 := by rw [← hsetV5]; exact (Kept.refl [by'] V3).set_ (b := by') (.inl (by simp)) M _
        have HEY_4 : Hid (Arr V5 by' cy ((T.bytes D).set M vy)) := by rw [← hsetV5]; exact hide (HEY_3.out.set_ (i := M) vy)
        have HEX_4 := hide (HEX_3.out.kept hk (by simp; exact hxy))
        have HK_4 := hide (HK_3.out.trans hk (by simp; exact hby))
        have HG_4 := hide (HG_3.out.kept hk (by simp; exact hGy))
        have HIS_4 := hide (HIS_3.out.kept hk (by simp))
        have HIT_4 := hide (HIT_3.out.kept hk (by simp))
        have HQ6_4 := hide (hk.blk HQ6_3.out (by simp; exact hgy))
        have HQ7_4 := hide (hk.blk HQ7_3.out (by simp; exact hqy))
        clear hk HEX_3 HEY_3 HK_3 HG_3 HIS_3 HIT_3 HQ6_3 HQ7_3
        go_wp2_with fail
        refine (choose_any G D (some ⟨bx, 0, none⟩) (some ⟨by', 0, none⟩) N N cx cy (S.bytes D) ((T.bytes D).set M vy) _ HG_4.out (HEX_4.out.vals (by simp)) HXL.out (by simp) (by omega) (HEY_4.out.vals (by simp)) (by rw [List.length_set]; exact HYL.out) (by simp) (by omega)).mono ?_
        rintro e V6 ⟨P, rfl, hPs, hin, hk⟩
        rw [HC.out] at hin ⊢
        dsimp only at hin ⊢
        have hi := hin [] (by simp)
        clear hcV5 hfV5 hsetV5
        obtain ⟨V7, hv7⟩ : ∃ V7, V6.alloc (.cells (S.cells P) 28) = V7 := ⟨_, rfl⟩
        have hk7 : Kept [] V6 V7 := by rw [← hv7]; exact (Kept.refl [] V6).alloc _
        have hb7 : Blk V7 V6.heap.size 28 (S.cells P) := by rw [← hv7]; exact Blk.new V6 _ _
        obtain ⟨zz, hzz⟩ : ∃ zz, V6.heap.size = zz := ⟨_, rfl⟩
        rw [hzz] at hb7
        have hk67 := hk.trans hk7 (by simp)
        have HK_7 := hide (HK_4.out.trans hk67 (by simp))
        have HIP_7 := hide (hi.kept hk7 (by simp))
        have HIS_7 := hide ((HIS_4.out.at_).kept hk67 (by simp))
        have HIT_7 := hide ((HIT_4.out.at_).kept hk67 (by simp))
        have HQ6_7 := hide (hk67.blk HQ6_4.out (by simp))
        have HQ7_7 := hide (hk67.blk HQ7_4.out (by simp))
        have HP_7 := hide hb7
        clear hk hk7 hk67 hb7 hin hi HEX_4 HEY_4 HK_4 HG_4 HIS_4 HIT_4 HQ6_4 HQ7_4
        unfold Rg.cells at hv7
        unfold Rg.val
        obtain ⟨s0, s1, s2, s3, s4, s5, s6, s7, s8, s9, s10, s11, s12, s13⟩ := cell14 HP_7.out
        obtain ⟨d0, d1, d2, d3, d4, d5, d6, d7, d8, d9, d10, d11, d12, d13⟩ := cell14 HQ6_7.out
        obtain ⟨t0, t1, t2, t3, t4, t5, t6, t7, t8, t9, t10, t11, t12, t13⟩ := cell14 HQ7_7.out
        go_wp2_with fail
        refine (same_any S P X _ HIP_7.out HIS_7.out hPs).mono ?_
        rintro e V8 ⟨rfl, hk⟩
        have HK_8 := hide (HK_7.out.trans hk (by simp))
        clear hk hv7 s0 s1 s2 s3 s4 s5 s6 s7 s8 s9 s10 s11 s12 s13 d0 d1 d2 d3 d4 d5 d6 d7 d8 d9 d10 d11 d12 d13 t0 t1 t2 t3 t4 t5 t6 t7 t8 t9 t10 t11 t12 t13
        go_wp2_with fail
        refine (awake_any _).mono ?_
        rintro e V9 ⟨rfl, hk⟩
        have HK_9 := hide (HK_8.out.trans hk (by simp))
        clear hk
        go_wp2
        go_ret
        exact ⟨rfl, HK_9.out.below (by simp)⟩
    · as_aux_lemma =>
        obtain ⟨u, hu⟩ : ∃ u, Rg.zero = u := ⟨_, rfl⟩
        have HC : Hid (rg.choose D ((S.bytes D).set 2 vx) ((T.bytes D).set M vy) = (u, 0, 2)) := hide (by rw [← hu]; exact choose_none _ _ (decode_first HD.out HS.out yx vx HYX.out HVX.out) (decode_last HD.out HT.out M (by rw [HMN.out, HN.out]) yy vy HYY.out HVY.out))
        clear hu
        obtain ⟨V4, hsetV4⟩ : ∃ V4, V3.setCell ⟨bx, 2, none⟩ (.int .u8 (vx.toNat : Int)) = V4 := ⟨_, rfl⟩
        have hcV4 : V3.cell? ⟨bx, 2, none⟩ = some (.int .u8 (yx.toNat : Int)) := HEX_3.out.at_ HYX.out
        have hfV4 := HEX_3.out.frozen 2
        have hk : Kept [bx] V3 V4 := by rw [← hsetV4]; exact (Kept.refl [bx] V3).set_ (b := bx) (.inl (by simp)) 2 _
        have HEX_4 : Hid (Arr V4 bx cx ((S.bytes D).set 2 vx)) := by rw [← hsetV4]; exact hide (HEX_3.out.set_ (i := 2) vx)
        have HEY_4 := hide (HEY_3.out.kept hk (by simp; exact Ne.symm hxy))
        have HK_4 := hide (HK_3.out.trans hk (by simp; exact hbx))
        have HG_4 := hide (HG_3.out.kept hk (by simp; exact hGx))
        have HIS_4 := hide (HIS_3.out.kept hk (by simp))
        have HIT_4 := hide (HIT_3.out.kept hk (by simp))
        have HQ6_4 := hide (hk.blk HQ6_3.out (by simp; exact hgx))
        have HQ7_4 := hide (hk.blk HQ7_3.out (by simp; exact hqx))
        clear hk HEX_3 HEY_3 HK_3 HG_3 HIS_3 HIT_3 HQ6_3 HQ7_3
        obtain ⟨V5, hsetV5⟩ : ∃ V5, V4.setCell ⟨by', M, none⟩ (.int .u8 (vy.toNat : Int)) = V5 := ⟨_, rfl⟩
        have hcV5 : V4.cell? ⟨by', M, none⟩ = some (.int .u8 (yy.toNat : Int)) := HEY_4.out.at_ HYY.out
        have hfV5 := HEY_4.out.frozen M
        have hk : Kept [by'] V4 V5 := by rw [← hsetV5]; exact (Kept.refl [by'] V4).set_ (b := by') (.inl (by simp)) M _
        have HEY_5 : Hid (Arr V5 by' cy ((T.bytes D).set M vy)) := by rw [← hsetV5]; exact hide (HEY_4.out.set_ (i := M) vy)
        have HEX_5 := hide (HEX_4.out.kept hk (by simp; exact hxy))
        have HK_5 := hide (HK_4.out.trans hk (by simp; exact hby))
        have HG_5 := hide (HG_4.out.kept hk (by simp; exact hGy))
        have HIS_5 := hide (HIS_4.out.kept hk (by simp))
        have HIT_5 := hide (HIT_4.out.kept hk (by simp))
        have HQ6_5 := hide (hk.blk HQ6_4.out (by simp; exact hgy))
        have HQ7_5 := hide (hk.blk HQ7_4.out (by simp; exact hqy))
        clear hk HEX_4 HEY_4 HK_4 HG_4 HIS_4 HIT_4 HQ6_4 HQ7_4
        go_wp2_with fail
        refine (choose_any G D (some ⟨bx, 0, none⟩) (some ⟨by', 0, none⟩) N N cx cy ((S.bytes D).set 2 vx) ((T.bytes D).set M vy) _ HG_5.out (HEX_5.out.vals (by simp)) (by rw [List.length_set]; exact HXL.out) (by simp) (by omega) (HEY_5.out.vals (by simp)) (by rw [List.length_set]; exact HYL.out) (by simp) (by omega)).mono ?_
        rintro e V6 ⟨P, rfl, hPs, hin, hk⟩
        rw [HC.out] at hin ⊢
        dsimp only at hin ⊢
        have hi := hin [] (by simp)
        clear hcV4 hfV4 hsetV4
        clear hcV5 hfV5 hsetV5
        obtain ⟨V7, hv7⟩ : ∃ V7, V6.alloc (.cells (u.cells P) 28) = V7 := ⟨_, rfl⟩
        have hk7 : Kept [] V6 V7 := by rw [← hv7]; exact (Kept.refl [] V6).alloc _
        have hb7 : Blk V7 V6.heap.size 28 (u.cells P) := by rw [← hv7]; exact Blk.new V6 _ _
        obtain ⟨zz, hzz⟩ : ∃ zz, V6.heap.size = zz := ⟨_, rfl⟩
        rw [hzz] at hb7
        have hk67 := hk.trans hk7 (by simp)
        have HK_7 := hide (HK_5.out.trans hk67 (by simp))
        have HIP_7 := hide (hi.kept hk7 (by simp))
        have HIS_7 := hide ((HIS_5.out.at_).kept hk67 (by simp))
        have HIT_7 := hide ((HIT_5.out.at_).kept hk67 (by simp))
        have HQ6_7 := hide (hk67.blk HQ6_5.out (by simp))
        have HQ7_7 := hide (hk67.blk HQ7_5.out (by simp))
        have HP_7 := hide hb7
        clear hk hk7 hk67 hb7 hin hi HEX_5 HEY_5 HK_5 HG_5 HIS_5 HIT_5 HQ6_5 HQ7_5
        unfold Rg.cells at hv7
        unfold Rg.val
        obtain ⟨s0, s1, s2, s3, s4, s5, s6, s7, s8, s9, s10, s11, s12, s13⟩ := cell14 HP_7.out
        obtain ⟨d0, d1, d2, d3, d4, d5, d6, d7, d8, d9, d10, d11, d12, d13⟩ := cell14 HQ6_7.out
        obtain ⟨t0, t1, t2, t3, t4, t5, t6, t7, t8, t9, t10, t11, t12, t13⟩ := cell14 HQ7_7.out
        go_wp2_with fail
        have HK_8 := HK_7
        clear hv7 s0 s1 s2 s3 s4 s5 s6 s7 s8 s9 s10 s11 s12 s13 d0 d1 d2 d3 d4 d5 d6 d7 d8 d9 d10 d11 d12 d13 t0 t1 t2 t3 t4 t5 t6 t7 t8 t9 t10 t11 t12 t13
        refine (awake_any _).mono ?_
        rintro e V9 ⟨rfl, hk⟩
        have HK_9 := hide (HK_8.out.trans hk (by simp))
        clear hk
        go_wp2
        go_ret
        exact ⟨rfl, HK_9.out.below (by simp)⟩

theorem walk (a0_0 a0_1 a0_2 : Int) (a1 : Option Addr) (len1 cap1 : Nat) (z1 : List Int) (a2 : Option Addr) (len2 cap2 : Nat) (z2 : List Int) (a3 : Int) (w : World) (w0_0 : (Lit.int .i64 a0_0).wf = true) (w0_1 : (Lit.int .i64 a0_1).wf = true) (w0_2 : (Lit.int .i64 a0_2).wf = true) (w1 : IsRow .i64 w a1 len1 cap1 z1) (w2 : IsRow .i64 w a2 len2 cap2 z2) (w3 : (Lit.int .i64 a3).wf = true) :
    Calls Try.prog 6 #[.agg #[.int .i64 a0_0, .int .i64 a0_1, .int .i64 a0_2], .slice a1 len1 cap1, .slice a2 len2 cap2, .int .i64 a3] w fun e w' => e = .returned (.bool true) ∧ Below w.heap.size w w' := by
  obtain ⟨l1, hl1, _, hv1, _⟩ := w1.ints
  obtain ⟨l2, hl2, _, hv2, _⟩ := w2.ints
  exact walk_in a0_0 a0_1 a0_2 a1 a2 len1 len2 cap1 cap2 l1 l2 a3 w hv1 hl1 hv2 hl2

/-! ### the row's step, as the guide's skeleton has it -/
set_option maxRecDepth 100000 in
theorem lifted (os : Os) (started : os.Started) (H : Type) (enc : TypeId × Value → H) :
    ReturnsInHanded {} Try.checked os 6 .any (Rows.regionChoosesSpec.pre6 enc Try.prog Try.f6 Rows.regionChoosesRow.domain false) (Rows.regionChoosesSpec.post enc Try.prog Try.f6 false true false false) := by
  refine returnsInHanded_of_change (C := Try.checked) own started (by kernel_rfl) Try.func6
    (ChangeSpec.witness6 (enc := enc) (C := Try.checked) false ⟨#[], #[.agg #[.int .i64 0, .int .i64 0, .int .i64 0], .slice none 0 0, .slice none 0 0, .int .i64 0], []⟩ 8 (by kernel_rfl) (by kernel_rfl) (by kernel_rfl) (by kernel_rfl)) ?_
  intro W base args ds gs before hval0 hW hcnd _
  have hval : ∀ (j : Nat) t v, Try.f6.params[j]? = some t → args[j]? = some v → Value.okWide Try.prog W .any base t v := hval0
  have hW' := hW
  obtain ⟨p, q, hA0, hV, rfl, hfz, hnd⟩ := hW
  have hA : DataW.TrodAll enc Try.prog W 0 (fun _ => true) true Try.f6.params.toList args.toList ds p := hA0
  rw [Try.params6] at hA hval
  obtain ⟨v0, vs0, d0, ds0, p0, q0, hargs, rfl, rfl, h0, r0⟩ := trodAll_cons hA
  obtain ⟨v1, vs1, d1, ds1, p1, q1, rfl, rfl, rfl, h1, r1⟩ := trodAll_cons r0
  obtain ⟨v2, vs2, d2, ds2, p2, q2, rfl, rfl, rfl, h2, r2⟩ := trodAll_cons r1
  obtain ⟨v3, vs3, d3, ds3, p3, q3, rfl, rfl, rfl, h3, r3⟩ := trodAll_cons r2
  obtain ⟨rfl, rfl, rfl⟩ := trodAll_nil r3
  obtain rfl : args = #[v0, v1, v2, v3] := by cases args; simp_all
  obtain ⟨rfl, rfl⟩ := trodVars_none hV
  have k0 := h0
  have lt0 : ∀ x ∈ p0, x.block < W.heap.size := by obtain ⟨m, hm⟩ := k0; exact DataW.trod_lt m _ _ _ hm
  obtain ⟨xs0, rfl, hl0, hx0⟩ := agg_ints (ts := List.replicate 3 3) (n := 3) (by kernel_rfl) (by kernel_rfl) (fun u hu => by rw [List.eq_of_mem_replicate hu]; exact Try.underlying3) (by kernel_rfl) (hval 0 22 v0 rfl rfl)
  obtain ⟨a0_0, a0_1, a0_2, rfl⟩ := list3 hl0
  have w0_0 := hx0 a0_0 (by simp)
  have w0_1 := hx0 a0_1 (by simp)
  have w0_2 := hx0 a0_2 (by simp)
  obtain ⟨a1, len1, cap1, rfl⟩ := okWide_slice Try.underlying25 (hval 1 25 v1 rfl rfl)
  have k1 := h1
  have lt1 : ∀ x ∈ p1, x.block < W.heap.size := by obtain ⟨m, hm⟩ := k1; exact DataW.trod_lt m _ _ _ hm
  obtain ⟨z1, w1⟩ : ∃ zs, IsRow .i64 W a1 len1 cap1 zs := by
    obtain ⟨fuel, hf⟩ := h1
    rcases open_ints Try.underlying25 Try.underlying3 (by kernel_rfl) hf with ⟨hcs, _⟩ | ⟨x, l, c, zs, hcs, _, hl, hm, hz, _, hcell, hwz⟩
    · simp [Value.cells] at hcs
      obtain ⟨rfl, rfl, rfl⟩ := hcs
      exact ⟨[], .inl ⟨rfl, rfl, rfl, rfl⟩⟩
    · simp [Value.cells] at hcs
      obtain ⟨rfl, rfl, rfl⟩ := hcs
      exact ⟨zs, .inr ⟨_, rfl, hl, hm, by simpa using hz, hcell, hwz⟩⟩
  obtain ⟨a2, len2, cap2, rfl⟩ := okWide_slice Try.underlying25 (hval 2 25 v2 rfl rfl)
  have k2 := h2
  have lt2 : ∀ x ∈ p2, x.block < W.heap.size := by obtain ⟨m, hm⟩ := k2; exact DataW.trod_lt m _ _ _ hm
  obtain ⟨z2, w2⟩ : ∃ zs, IsRow .i64 W a2 len2 cap2 zs := by
    obtain ⟨fuel, hf⟩ := h2
    rcases open_ints Try.underlying25 Try.underlying3 (by kernel_rfl) hf with ⟨hcs, _⟩ | ⟨x, l, c, zs, hcs, _, hl, hm, hz, _, hcell, hwz⟩
    · simp [Value.cells] at hcs
      obtain ⟨rfl, rfl, rfl⟩ := hcs
      exact ⟨[], .inl ⟨rfl, rfl, rfl, rfl⟩⟩
    · simp [Value.cells] at hcs
      obtain ⟨rfl, rfl, rfl⟩ := hcs
      exact ⟨zs, .inr ⟨_, rfl, hl, hm, by simpa using hz, hcell, hwz⟩⟩
  obtain ⟨a3, rfl, rfl, rfl, w3⟩ := open_int Try.underlying3 (hval 3 3 v3 rfl rfl) h3
  clear hA0 hval0
  refine (walk a0_0 a0_1 a0_2 a1 len1 cap1 z1 a2 len2 cap2 z2 a3 W w0_0 w0_1 w0_2 w1 w2 w3).mono fun e W' ⟨he, bel⟩ => ?_
  subst he
  exact ⟨_, rfl, _, _, _, [], _, [], hW', trodAll_mk1 (shut_bool Try.underlying4 _), (trodAll_cons_mk (Below.trod laidOut (by kernel_rfl) (of_decide_eq_true (by kernel_rfl)) k0 bel lt0) (trodAll_cons_mk (Below.trod laidOut (by kernel_rfl) (of_decide_eq_true (by kernel_rfl)) k1 bel lt1) (trodAll_cons_mk (Below.trod laidOut (by kernel_rfl) (of_decide_eq_true (by kernel_rfl)) k2 bel lt2) (trodAll_cons_mk (shut_int Try.underlying3 w3) trodAll_mk0)))), rfl, bel.frame _, fun h => by cases h⟩

theorem over : Rows.regionChoosesRow.holds Try.pinned (OpenSpec.ofChange Rows.regionChoosesSpec) :=
  OpenClaim.holds_of_wide 6 Try.f6 rfl rfl rfl rfl rfl rfl rfl ⟨rfl, rfl, rfl, rfl, rfl⟩ rfl rfl rfl rfl rfl (by kernel_rfl) Try.func6 (by kernel_rfl)
    (of_decide_eq_true (by kernel_rfl)) (by unfold Func.isWrapper; first | (rw [if_pos (by decide +kernel)]; kernel_rfl) | (rw [if_neg (by decide +kernel)]; exact ⟨rfl, rfl⟩))
    (fun os started H enc _ => lifted os started H enc)

/-- The statement. -/
theorem proved : Rows.RegionChoosesSaid := over
#print axioms proved
end Go.Proofs.Ythacnlpdodlggaa.regionChooses

