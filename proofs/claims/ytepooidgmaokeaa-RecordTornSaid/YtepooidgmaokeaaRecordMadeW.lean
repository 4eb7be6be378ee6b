/- The laws' made: its walk (made by tools/genrmade.py). -/
import Derived.Test.YtepooidgmaokeaaRecordMade
namespace Go.Proofs.Ytepooidgmaokeaa.record
open Go.RowKit Go.Proofs.Ytepooidgmaokeaa.mem Go.Proofs.Ytepooidgmaokeaa.base Go.Proofs.Ytepooidgmaokeaa.row Go.Proofs.Ytepooidgmaokeaa.rowBack Go.Proofs.Ytepooidgmaokeaa.fill Go.Proofs.Ytepooidgmaokeaa.crc Go.Proofs.Ytepooidgmaokeaa.crcMath Go.Proofs.Ytepooidgmaokeaa.super Go.Proofs.Ytepooidgmaokeaa.item

theorem own_form {w : World} {base : Nat} {e : TypeId} {sz : Nat} {v : Value} {n : Nat} {xs : List Value} (h : w.ownsRow base e sz v n xs) : ∃ A c, v = .slice A n c := by
  rcases h.2 with ⟨rfl, h0⟩ | ⟨g, cap, cur, rfl, _⟩
  · exact ⟨none, 0, by rw [h0]⟩
  · exact ⟨_, _, rfl⟩
theorem mkBks_le (ks : List Int) (fill : Int) (n : Nat) : (madeBks ks fill n).length ≤ n := by
  induction n with
  | zero => exact Nat.le_refl _
  | succ n ih =>
    unfold madeBks at ih ⊢
    rw [List.range_succ, List.flatMap_append, List.length_append, List.flatMap_singleton]
    have : (mkBlocks n (ks.getD n 0 % 5) fill).length ≤ 1 := by
      unfold mkBlocks
      split
      · simp
      split
      · simp
      split <;> simp
    omega
theorem arr_zeros (w : World) : Arr (w.alloc (.cells (madeCells #[.int .u8 0] 64) 5)) w.heap.size 64 (List.replicate 64 0) :=
  ⟨_, Blk.new _ _ _, by rw [size_madeCells], by simp, fun k y hy => by
    rw [List.getElem?_replicate] at hy
    split at hy
    · rename_i hk
      injection hy with hy
      subst hy
      exact base.made_B 64 k hk
    · cases hy⟩

set_option maxRecDepth 100000 in
set_option maxHeartbeats 4000000 in
theorem made_any (K : Option Addr) (n c : Nat) (ks : List Int) (lsn prev fill : Int) (w : World) (hv : Vals w [] K (ks.map I)) (hl : ks.length = n) (hn : n ≤ 6) :
    Calls Try.prog 21 #[.slice K n c, .int .i64 lsn, .int .i64 prev, .int .i64 fill] w fun e w' => ∃ (L : Option Addr) (m lc : Nat) (P : Option Addr) (k pc : Nat),
      e = .returned (.agg #[.int .i64 (made ks lsn prev fill).m, .int .i64 (made ks lsn prev fill).l, .int .i64 (made ks lsn prev fill).p, .slice L m lc, .slice P k pc]) ∧ RcAt w' L m P k (made ks lsn prev fill) ∧ Kept [] w w' := by
  have HV := hide hv
  have HL := hide hl
  have a1 := Int.emod_nonneg fill (show (1000 : Int) ≠ 0 by omega)
  have a2 := Int.emod_lt_of_pos fill (show (0 : Int) < 1000 by omega)
  have b1 := Int.emod_nonneg lsn (show (2147483647 : Int) ≠ 0 by omega)
  have b2 := Int.emod_lt_of_pos lsn (show (0 : Int) < 2147483647 by omega)
  have hmd : made ks lsn prev fill = ⟨1 + fill % 1000, 1 + lsn % 2147483647, prev % 4294967296, madeIts ks n, madeBks ks fill n⟩ := by rw [← hl]; rfl
  have hr1 := round_any fill 1000
  have hr2 := round_any lsn 2147483647
  have hr3 := round_any prev 4294967296
  obtain ⟨y1, hy1⟩ : ∃ y, fill % 1000 = y := ⟨_, rfl⟩
  obtain ⟨y2, hy2⟩ : ∃ y, lsn % 2147483647 = y := ⟨_, rfl⟩
  obtain ⟨y3, hy3⟩ : ∃ y, prev % 4294967296 = y := ⟨_, rfl⟩
  rw [hy1] at a1 a2 hmd
  rw [hy2] at b1 b2 hmd
  rw [hy3] at hmd
  simp only [hy1] at hr1
  simp only [hy2] at hr2
  simp only [hy3] at hr3
  have HMD := hide hmd
  have HR1 := hide hr1
  have HR2 := hide hr2
  have HR3 := hide hr3
  obtain ⟨w1, hw1⟩ : ∃ w1, w.alloc (.cells #[.int .i64 0, .int .i64 0, .int .i64 0, .slice none 0 0, .slice none 0 0] 25) = w1 := ⟨_, rfl⟩
  obtain ⟨g, hg⟩ : ∃ g, w.heap.size = g := ⟨_, rfl⟩
  obtain ⟨s, hs⟩ : ∃ s, w1.heap.size = s := ⟨_, rfl⟩
  have hb1 : Blk w1 g 25 #[.int .i64 0, .int .i64 0, .int .i64 0, .slice none 0 0, .slice none 0 0] := by rw [← hw1, ← hg]; exact Blk.new w _ _
  have hk1 : Kept [] w w1 := by rw [← hw1]; exact (Kept.refl [] w).alloc _
  have hgs : g < s := by rw [← hs]; exact hb1.lt
  have hb2 := hb1.alloc (.cells #[.int .i64 (1 + y1), .int .i64 (1 + y2), .int .i64 y3, .slice none 0 0, .slice none 0 0] 25)
  have hs2 := Blk.new w1 25 #[.int .i64 (1 + y1), .int .i64 (1 + y2), .int .i64 y3, .slice none 0 0, .slice none 0 0]
  have hk2 := hk1.alloc (.cells #[.int .i64 (1 + y1), .int .i64 (1 + y2), .int .i64 y3, .slice none 0 0, .slice none 0 0] 25)
  rw [hs] at hs2
  obtain ⟨w2, hw2⟩ : ∃ w2, w1.alloc (.cells #[.int .i64 (1 + y1), .int .i64 (1 + y2), .int .i64 y3, .slice none 0 0, .slice none 0 0] 25) = w2 := ⟨_, rfl⟩
  rw [hw2] at hb2 hs2 hk2
  obtain ⟨Bz, hBz⟩ : ∃ Bz, w2.heap.size = Bz := ⟨_, rfl⟩
  have hsB : s < Bz := by rw [← hBz]; exact hs2.lt
  have HWG := hide (show w.heap.size ≤ g ∧ w.heap.size ≤ s by omega)
  have HMS : Hid (MS w2 w g s Bz (1 + y1) (1 + y2) y3 (madeIts ks 0) (madeBks ks fill 0) (.slice none 0 0) (.slice none 0 0) []) := hide ⟨hs2, Own.nil _ _, World.ownsRow_nil _ _ _ _, PartsIn.nil _ _, hb2, hk2, Nat.le_of_eq hBz.symm⟩
  rw [← hw2] at HMS
  clear hb1 hb2 hs2 hk1 hk2 hv hl hmd hr1 hr2 hr3 hy1 hy2 hy3 hBz hw2 w2
  go_enter Try.func21, Try.ntmps21
  go_wp2_with fail
  refine (HR1.out _ (by omega) (by omega)).mono ?_
  rintro e w3 ⟨rfl, rfl⟩
  go_wp2_with fail
  refine (HR2.out _ (by omega) (by omega)).mono ?_
  rintro e w3 ⟨rfl, rfl⟩
  go_wp2_with fail
  refine (HR3.out _ (by omega) (by omega)).mono ?_
  rintro e w3 ⟨rfl, rfl⟩
  clear HR1 HR2 HR3
  go_wp2
  generalize hX1 : (1 + y1 : Int) = X1 at HMS HMD ⊢
  generalize hX2 : (1 + y2 : Int) = X2 at HMS HMD ⊢
  clear hX1 hX2 a1 a2 b1 b2
  go_loopw [10] (fun i wr => ∃ (j : Nat) (v u : Value) (vs : List Value), j ≤ n ∧ i = .int .i64 (j : Int) ∧ Hid (MS wr w g s Bz X1 X2 y3 (madeIts ks j) (madeBks ks fill j) v u vs)) (fun i wr => n - (intOf i).toNat)
  case atStart => exact ⟨0, .slice none 0 0, .slice none 0 0, [], by omega, rfl, HMS⟩
  case round =>
    obtain ⟨j, v, u, vs, hj, rfl, HM⟩ := hrel
    by_cases hlt : j < n
    · obtain ⟨z, hz⟩ : ∃ z, ks[j]? = some z := ⟨_, List.getElem?_eq_getElem (by rw [HL.out]; exact hlt)⟩
      obtain ⟨ad, rfl, _, hc⟩ := (HV.out.kept HM.out.kept (by simp)) j (I z) (by rw [List.getElem?_map, hz]; rfl)
      unfold I at hc
      have HIS := hide (madeIts_succ ks j z hz)
      have HBS := hide (madeBks_succ ks fill j z hz)
      have hlk := madeIts_len ks j
      obtain ⟨L2, cc2, hv2⟩ := own_form (show wr.ownsRow Bz 52 4 v (madeIts ks j).length (valsOf (madeIts ks j)) from HM.out.items)
      rw [hlk] at hv2
      subst hv2
      have hown := HM.out.items
      unfold Own at hown
      rw [hlk] at hown
      have HOW : Hid (∀ o : Obj, (wr.alloc o).ownsRow Bz 52 4 (.slice L2 j cc2) j (valsOf (madeIts ks j))) := hide (fun o => own_keep hown ((Kept.refl [] wr).alloc o) (by simp))
      have HLK := hide hlk
      have HNS : Hid (s ∉ (Value.slice L2 j cc2).ownBlock.toList) := hide (fun hm => by have := (own_blk hown s hm).1; omega)
      have c3 : wr.cell? ⟨s, 3, none⟩ = some (.slice L2 j cc2) := HM.out.rec_.cell 3
      have hsz := HM.out.size
      clear hz hlk hown
      go_wp2_with fail
      refine (round_any z 5 _ (by omega) (by omega)).mono ?_
      rintro e w3 ⟨rfl, rfl⟩
      rcases five z with h5 | h5 | h5 | h5 | h5
      · rw [h5]
        rw [h5] at HIS HBS
        clear h5
        go_wp2_with (at_builtin; refine wpList_append_vals rfl (.tmp 34) (.tmp 39) 22 rfl Bz 52 It.zero.val 4 32 Try.underlying22 item_info rfl (by omega) (.slice L2 j cc2) j (valsOf (madeIts ks j)) rfl (HOW.out _) [] _ 1 1 (It.vals (⟨2, (j : Int), 1 + (j : Int), 0⟩ : It)) rfl rfl (Vals.new _ [] _ _ (by simp)) (oneCell_It _) (by simp only [maxLen]; omega) (by omega) (by simp; omega) ?_; intro v1 w10 hown1 hk1 hat1; obtain ⟨A3, q3, rfl⟩ := own_form hown1; have hS10 := hk1.blk (HM.out.rec_.alloc _) HNS.out; have y3' := hS10.cell 3; have y3f := hS10.frozen 3)
        have hms := HM.out.item hgs hsB HWG.out.2 ((Kept.refl [] wr).alloc _) (⟨2, (j : Int), 1 + (j : Int), 0⟩ : It) (by rw [HLK.out]; exact hown1) hk1 hat1
        generalize w10.setCell ⟨s, 3, none⟩ (.slice A3 (j + 1) q3) = w11 at hms ⊢
        have HM11 : Hid (MS w11 w g s Bz X1 X2 y3 (madeIts ks (j + 1)) (madeBks ks fill (j + 1)) (.slice A3 (j + 1) q3) u vs) := hide (by rw [HIS.out, HBS.out]; simpa [mkItem, mkBlocks] using hms)
        clear hms hown1 hk1 hat1 hS10 y3' y3f
        first
          | (go_roundw
             case rel => exact ⟨j + 1, _, _, _, by omega, by go_num, HM11⟩
             case measure => simp [intOf]; omega)
          | (go_wp2
             go_roundw
             case rel => exact ⟨j + 1, _, _, _, by omega, by go_num, HM11⟩
             case measure => simp [intOf]; omega)
      · rw [h5]
        rw [h5] at HIS HBS
        clear h5
        go_wp2_with (at_builtin; refine wpList_append_vals rfl (.tmp 45) (.tmp 49) 22 rfl Bz 52 It.zero.val 4 32 Try.underlying22 item_info rfl (by omega) (.slice L2 j cc2) j (valsOf (madeIts ks j)) rfl (HOW.out _) [] _ 1 1 (It.vals (⟨3, 0, 0, 1 + (j : Int)⟩ : It)) rfl rfl (Vals.new _ [] _ _ (by simp)) (oneCell_It _) (by simp only [maxLen]; omega) (by omega) (by simp; omega) ?_; intro v1 w10 hown1 hk1 hat1; obtain ⟨A3, q3, rfl⟩ := own_form hown1; have hS10 := hk1.blk (HM.out.rec_.alloc _) HNS.out; have y3' := hS10.cell 3; have y3f := hS10.frozen 3)
        have hms := HM.out.item hgs hsB HWG.out.2 ((Kept.refl [] wr).alloc _) (⟨3, 0, 0, 1 + (j : Int)⟩ : It) (by rw [HLK.out]; exact hown1) hk1 hat1
        generalize w10.setCell ⟨s, 3, none⟩ (.slice A3 (j + 1) q3) = w11 at hms ⊢
        have HM11 : Hid (MS w11 w g s Bz X1 X2 y3 (madeIts ks (j + 1)) (madeBks ks fill (j + 1)) (.slice A3 (j + 1) q3) u vs) := hide (by rw [HIS.out, HBS.out]; simpa [mkItem, mkBlocks] using hms)
        clear hms hown1 hk1 hat1 hS10 y3' y3f
        first
          | (go_roundw
             case rel => exact ⟨j + 1, _, _, _, by omega, by go_num, HM11⟩
             case measure => simp [intOf]; omega)
          | (go_wp2
             go_roundw
             case rel => exact ⟨j + 1, _, _, _, by omega, by go_num, HM11⟩
             case measure => simp [intOf]; omega)
      · rw [h5]
        rw [h5] at HIS HBS
        clear h5
        go_wp2_with (at_builtin; refine wpList_append_vals rfl (.tmp 55) (.tmp 58) 22 rfl Bz 52 It.zero.val 4 32 Try.underlying22 item_info rfl (by omega) (.slice L2 j cc2) j (valsOf (madeIts ks j)) rfl (HOW.out _) [] _ 1 1 (It.vals (⟨1, (j : Int), 0, 0⟩ : It)) rfl rfl (Vals.new _ [] _ _ (by simp)) (oneCell_It _) (by simp only [maxLen]; omega) (by omega) (by simp; omega) ?_; intro v1 w10 hown1 hk1 hat1; obtain ⟨A3, q3, rfl⟩ := own_form hown1; have hS10 := hk1.blk (HM.out.rec_.alloc _) HNS.out; have y3' := hS10.cell 3; have y3f := hS10.frozen 3)
        have hms := HM.out.item hgs hsB HWG.out.2 ((Kept.refl [] wr).alloc _) (⟨1, (j : Int), 0, 0⟩ : It) (by rw [HLK.out]; exact hown1) hk1 hat1
        generalize w10.setCell ⟨s, 3, none⟩ (.slice A3 (j + 1) q3) = w11 at hms ⊢
        have HM11 := hide hms
        obtain ⟨q, hq⟩ : ∃ q, (madeBks ks fill j).length = q := ⟨_, rfl⟩
        obtain ⟨A4, c4, hu⟩ := own_form hms.blocks
        rw [hq] at hu
        subst hu
        have hbo := hms.blocks
        rw [hq] at hbo
        have HBO := hide hbo
        have HQ := hide hq
        have hq64 : q ≤ 6 := by
          have h1 := mkBks_le ks fill j
          omega
        have HNS2 : Hid (s ∉ (Value.slice A4 q c4).ownBlock.toList) := hide (fun hm => by have := (own_blk hbo s hm).1; omega)
        have e4 : (World.drew w11).cell? ⟨s, 4, none⟩ = some (.slice A4 q c4) := hms.rec_.cell 4
        have hsz2 := hms.size
        clear hms hown1 hk1 hat1 hS10 y3' y3f hbo hq
        go_wp2
        refine wp_region_noPanic ?_
        refine wp_region_held_drew (S := fun _ => True) (by kernel_rfl) (by trivial) (fun hHeld => ?_)
        refine wpAnyH_take (i := 0) (oi := ⟨some 61, _, _, _, _, _⟩) (v := ?v1) rfl (by kernel_rfl) (by kernel_rfl) (by kernel_rfl) (fun _ _ _ h => h) (Or.inl ⟨by rfl, ?hy1⟩) (by trivial) ?rest1
        case hy1 => (intro W hSw; go_simp; try with_reducible rfl)
        try simp only [Act.put, List.setIfInBounds_toArray, List.set_cons_zero, List.set_cons_succ]
        refine wpAnyH_take (i := 2) (oi := ⟨some 63, _, _, _, _, _⟩) (v := ?v2) rfl (by kernel_rfl) (by kernel_rfl) (by kernel_rfl) (fun _ _ _ h => h) (Or.inl ⟨by rfl, ?hy2⟩) (by trivial) ?rest2
        case hy2 => (intro W hSw; go_simp; try with_reducible rfl)
        try simp only [Act.put, List.setIfInBounds_toArray, List.set_cons_zero, List.set_cons_succ]
        refine wpAnyH_take (i := 3) (oi := ⟨some 64, _, _, _, _, _⟩) (v := ?v3) rfl (by kernel_rfl) (by kernel_rfl) (by kernel_rfl) (fun _ _ _ h => h) (Or.inl ⟨by rfl, ?hy3⟩) (by trivial) ?rest3
        case hy3 => (intro W hSw; go_simp; try with_reducible rfl)
        try simp only [Act.put, List.setIfInBounds_toArray, List.set_cons_zero, List.set_cons_succ]
        refine wpAnyH_take (i := 4) (oi := ⟨some 65, _, _, _, _, _⟩) (v := ?v4) rfl (by kernel_rfl) (by kernel_rfl) (by kernel_rfl) (fun _ _ _ h => h) (Or.inl ⟨by rfl, ?hy4⟩) (by trivial) ?rest4
        case hy4 => (intro W hSw; go_simp; try with_reducible rfl)
        try simp only [Act.put, List.setIfInBounds_toArray, List.set_cons_zero, List.set_cons_succ]
        refine next_two (i := 1) (j := 5) (o := ⟨some 62, _, _, _, _, _⟩) (o' := ⟨some 66, _, _, _, _, _⟩) (by kernel_rfl) rfl (by rfl) rfl (by rfl) (fun K hK => ?_) (fun K hK => ?_)
        · go_simp
          refine hK _ _ trivial ?_
          clear hK K
          try simp only [Act.put, List.setIfInBounds_toArray, List.set_cons_zero, List.set_cons_succ]
          refine held_one (i := 5) (o := ⟨some 66, _, _, _, _, _⟩) rfl (by kernel_rfl) (by rfl) (fun K hK => ?_)
          go_simp
          refine (fill_any (IntKind.i64.wrap (fill + (j : Int))) _).mono ?_
          rintro e w18 ⟨gp, rfl, hgp, harr, hkf⟩
          rw [fillOf_wrap] at harr
          have hk18 : Kept [] w11 w18 := ((Kept.refl [] w11).drewN 1).trans hkf (by simp)
          have e4w : w18.cell? ⟨s, 4, none⟩ = some (.slice A4 q c4) := hkf.cell e4 (by simp)
          have e4x : (w18.alloc (.cells #[.slice (some ⟨gp, 0, none⟩) 64 64] 28)).cell? ⟨s, 4, none⟩ = some (.slice A4 q c4) := ((Kept.refl [] w18).alloc _).cell e4w (by simp)
          refine hK.out _ _ (by trivial) (fun hHeld => ?_)
          clear hK K
          try simp only [Act.put, List.setIfInBounds_toArray, List.set_cons_zero, List.set_cons_succ]
          refine held_one (i := 6) (o := ⟨some 67, _, _, _, _, _⟩) rfl (by kernel_rfl) (by rfl) (fun K hK => ?_)
          go_simp
          refine hK.out _ _ (by trivial) (fun hHeld => ?_)
          clear hK K
          try simp only [Act.put, List.setIfInBounds_toArray, List.set_cons_zero, List.set_cons_succ]
          refine held_one (i := 7) (o := ⟨some 68, _, _, _, _, _⟩) rfl (by kernel_rfl) (by rfl) (fun K hK => ?_)
          refine wp_append_vals (o := ⟨some 68, _, _, _, _, _⟩) (.tmp 62) (.tmp 67) 23 rfl Bz 28 (.slice none 0 0) 1 24 Try.underlying23 slice_info rfl (by omega) (.slice A4 q c4) q vs (by go_simp) (own_keep (own_keep HBO.out hk18 (by simp)) ((Kept.refl [] w18).alloc _) (by simp)) [] _ 1 1 [.slice (some ⟨gp, 0, none⟩) 64 64] (by go_simp) rfl (vals_slice _ _ _) (oneCell_slice _ _ _) (by simp only [maxLen]; omega) (by omega) (by have := hk18.size; simp; omega) ?_
          intro u1 w20 hown2 hk2 hat2
          obtain ⟨A5, c5, rfl⟩ := own_form hown2
          have hS20 := hk2.blk ((hk18.blk HM11.out.rec_ (by simp)).alloc (.cells #[.slice (some ⟨gp, 0, none⟩) 64 64] 28)) HNS2.out
          have z4 := hS20.cell 4
          have z5 := hS20.frozen 4
          refine hK.out _ _ (by trivial) (fun hHeld => ?_)
          clear hK K
          try simp only [Act.put, List.setIfInBounds_toArray, List.set_cons_zero, List.set_cons_succ]
          refine wpAnyH_take (i := 8) (oi := ⟨some 69, _, _, _, _, _⟩) (v := ?v5) rfl (by kernel_rfl) (by kernel_rfl) (by kernel_rfl) (fun _ _ _ h => h) (Or.inl ⟨by rfl, ?hy5⟩) (by trivial) ?rest5
          case hy5 => (intro W hSw; go_simp; try with_reducible rfl)
          try simp only [Act.put, List.setIfInBounds_toArray, List.set_cons_zero, List.set_cons_succ]
          refine held_one (i := 9) (o := ⟨none, _, _, _, _, _⟩) rfl (by kernel_rfl) (by rfl) (fun K hK => ?_)
          go_simp
          refine hK.out _ _ (by trivial) (fun hHeld => ?_)
          clear hK K
          try simp only [Act.put, List.setIfInBounds_toArray, List.set_cons_zero, List.set_cons_succ]
          refine wpAnyH_done (by kernel_rfl) ?_ _
          refine NoPanic.normal ?_
          have hms2 := HM11.out.block hgs hsB HWG.out.2 hk18 ((Kept.refl [] w18).alloc (.cells #[.slice (some ⟨gp, 0, none⟩) 64 64] 28)) harr (fillOf_length _) hgp (by rw [HQ.out]; exact hown2) hk2 hat2 (by simp)
          generalize w20.setCell ⟨s, 4, none⟩ (.slice A5 (q + 1) c5) = w21 at hms2 ⊢
          have HM21 : Hid (MS w21 w g s Bz X1 X2 y3 (madeIts ks (j + 1)) (madeBks ks fill (j + 1)) (.slice A3 (j + 1) q3) (.slice A5 (q + 1) c5) (vs ++ [.slice (some ⟨gp, 0, none⟩) 64 64])) := hide (by rw [HIS.out, HBS.out]; simpa [mkItem, mkBlocks] using hms2)
          clear hms2 hown2 hk2 hat2 hS20 z4 z5 hkf hk18 e4w e4x e4 harr hgp HM11 HM hHeld
          go_wp2
          go_roundw
          case rel => exact ⟨j + 1, _, _, _, by omega, by go_num, HM21⟩
          case measure => simp [intOf]; omega
        · go_simp
          refine (fill_any (IntKind.i64.wrap (fill + (j : Int))) _).mono ?_
          rintro e w18 ⟨gp, rfl, hgp, harr, hkf⟩
          rw [fillOf_wrap] at harr
          have hk18 : Kept [] w11 w18 := ((Kept.refl [] w11).drewN 1).trans hkf (by simp)
          have e4w : w18.cell? ⟨s, 4, none⟩ = some (.slice A4 q c4) := hkf.cell e4 (by simp)
          have e4x : (w18.alloc (.cells #[.slice (some ⟨gp, 0, none⟩) 64 64] 28)).cell? ⟨s, 4, none⟩ = some (.slice A4 q c4) := ((Kept.refl [] w18).alloc _).cell e4w (by simp)
          refine hK _ _ trivial ?_
          clear hK K
          try simp only [Act.put, List.setIfInBounds_toArray, List.set_cons_zero, List.set_cons_succ]
          refine next_two (i := 1) (j := 6) (o := ⟨some 62, _, _, _, _, _⟩) (o' := ⟨some 67, _, _, _, _, _⟩) (by kernel_rfl) rfl (by rfl) rfl (by rfl) (fun K hK => ?_) (fun K hK => ?_)
          · go_simp
            refine hK _ _ trivial ?_
            clear hK K
            try simp only [Act.put, List.setIfInBounds_toArray, List.set_cons_zero, List.set_cons_succ]
            refine held_one (i := 6) (o := ⟨some 67, _, _, _, _, _⟩) rfl (by kernel_rfl) (by rfl) (fun K hK => ?_)
            go_simp
            refine hK.out _ _ (by trivial) (fun hHeld => ?_)
            clear hK K
            try simp only [Act.put, List.setIfInBounds_toArray, List.set_cons_zero, List.set_cons_succ]
            refine held_one (i := 7) (o := ⟨some 68, _, _, _, _, _⟩) rfl (by kernel_rfl) (by rfl) (fun K hK => ?_)
            refine wp_append_vals (o := ⟨some 68, _, _, _, _, _⟩) (.tmp 62) (.tmp 67) 23 rfl Bz 28 (.slice none 0 0) 1 24 Try.underlying23 slice_info rfl (by omega) (.slice A4 q c4) q vs (by go_simp) (own_keep (own_keep HBO.out hk18 (by simp)) ((Kept.refl [] w18).alloc _) (by simp)) [] _ 1 1 [.slice (some ⟨gp, 0, none⟩) 64 64] (by go_simp) rfl (vals_slice _ _ _) (oneCell_slice _ _ _) (by simp only [maxLen]; omega) (by omega) (by have := hk18.size; simp; omega) ?_
            intro u1 w20 hown2 hk2 hat2
            obtain ⟨A5, c5, rfl⟩ := own_form hown2
            have hS20 := hk2.blk ((hk18.blk HM11.out.rec_ (by simp)).alloc (.cells #[.slice (some ⟨gp, 0, none⟩) 64 64] 28)) HNS2.out
            have z4 := hS20.cell 4
            have z5 := hS20.frozen 4
            refine hK.out _ _ (by trivial) (fun hHeld => ?_)
            clear hK K
            try simp only [Act.put, List.setIfInBounds_toArray, List.set_cons_zero, List.set_cons_succ]
            refine wpAnyH_take (i := 8) (oi := ⟨some 69, _, _, _, _, _⟩) (v := ?v6) rfl (by kernel_rfl) (by kernel_rfl) (by kernel_rfl) (fun _ _ _ h => h) (Or.inl ⟨by rfl, ?hy6⟩) (by trivial) ?rest6
            case hy6 => (intro W hSw; go_simp; try with_reducible rfl)
            try simp only [Act.put, List.setIfInBounds_toArray, List.set_cons_zero, List.set_cons_succ]
            refine held_one (i := 9) (o := ⟨none, _, _, _, _, _⟩) rfl (by kernel_rfl) (by rfl) (fun K hK => ?_)
            go_simp
            refine hK.out _ _ (by trivial) (fun hHeld => ?_)
            clear hK K
            try simp only [Act.put, List.setIfInBounds_toArray, List.set_cons_zero, List.set_cons_succ]
            refine wpAnyH_done (by kernel_rfl) ?_ _
            refine NoPanic.normal ?_
            have hms2 := HM11.out.block hgs hsB HWG.out.2 hk18 ((Kept.refl [] w18).alloc (.cells #[.slice (some ⟨gp, 0, none⟩) 64 64] 28)) harr (fillOf_length _) hgp (by rw [HQ.out]; exact hown2) hk2 hat2 (by simp)
            generalize w20.setCell ⟨s, 4, none⟩ (.slice A5 (q + 1) c5) = w21 at hms2 ⊢
            have HM21 : Hid (MS w21 w g s Bz X1 X2 y3 (madeIts ks (j + 1)) (madeBks ks fill (j + 1)) (.slice A3 (j + 1) q3) (.slice A5 (q + 1) c5) (vs ++ [.slice (some ⟨gp, 0, none⟩) 64 64])) := hide (by rw [HIS.out, HBS.out]; simpa [mkItem, mkBlocks] using hms2)
            clear hms2 hown2 hk2 hat2 hS20 z4 z5 hkf hk18 e4w e4x e4 harr hgp HM11 HM hHeld
            go_wp2
            go_roundw
            case rel => exact ⟨j + 1, _, _, _, by omega, by go_num, HM21⟩
            case measure => simp [intOf]; omega
          · go_simp
            refine hK _ _ trivial ?_
            clear hK K
            try simp only [Act.put, List.setIfInBounds_toArray, List.set_cons_zero, List.set_cons_succ]
            refine held_one (i := 1) (o := ⟨some 62, _, _, _, _, _⟩) rfl (by kernel_rfl) (by rfl) (fun K hK => ?_)
            go_simp
            refine hK.out _ _ (by trivial) (fun hHeld => ?_)
            clear hK K
            try simp only [Act.put, List.setIfInBounds_toArray, List.set_cons_zero, List.set_cons_succ]
            refine held_one (i := 7) (o := ⟨some 68, _, _, _, _, _⟩) rfl (by kernel_rfl) (by rfl) (fun K hK => ?_)
            refine wp_append_vals (o := ⟨some 68, _, _, _, _, _⟩) (.tmp 62) (.tmp 67) 23 rfl Bz 28 (.slice none 0 0) 1 24 Try.underlying23 slice_info rfl (by omega) (.slice A4 q c4) q vs (by go_simp) (own_keep (own_keep HBO.out hk18 (by simp)) ((Kept.refl [] w18).alloc _) (by simp)) [] _ 1 1 [.slice (some ⟨gp, 0, none⟩) 64 64] (by go_simp) rfl (vals_slice _ _ _) (oneCell_slice _ _ _) (by simp only [maxLen]; omega) (by omega) (by have := hk18.size; simp; omega) ?_
            intro u1 w20 hown2 hk2 hat2
            obtain ⟨A5, c5, rfl⟩ := own_form hown2
            have hS20 := hk2.blk ((hk18.blk HM11.out.rec_ (by simp)).alloc (.cells #[.slice (some ⟨gp, 0, none⟩) 64 64] 28)) HNS2.out
            have z4 := hS20.cell 4
            have z5 := hS20.frozen 4
            refine hK.out _ _ (by trivial) (fun hHeld => ?_)
            clear hK K
            try simp only [Act.put, List.setIfInBounds_toArray, List.set_cons_zero, List.set_cons_succ]
            refine wpAnyH_take (i := 8) (oi := ⟨some 69, _, _, _, _, _⟩) (v := ?v7) rfl (by kernel_rfl) (by kernel_rfl) (by kernel_rfl) (fun _ _ _ h => h) (Or.inl ⟨by rfl, ?hy7⟩) (by trivial) ?rest7
            case hy7 => (intro W hSw; go_simp; try with_reducible rfl)
            try simp only [Act.put, List.setIfInBounds_toArray, List.set_cons_zero, List.set_cons_succ]
            refine held_one (i := 9) (o := ⟨none, _, _, _, _, _⟩) rfl (by kernel_rfl) (by rfl) (fun K hK => ?_)
            go_simp
            refine hK.out _ _ (by trivial) (fun hHeld => ?_)
            clear hK K
            try simp only [Act.put, List.setIfInBounds_toArray, List.set_cons_zero, List.set_cons_succ]
            refine wpAnyH_done (by kernel_rfl) ?_ _
            refine NoPanic.normal ?_
            have hms2 := HM11.out.block hgs hsB HWG.out.2 hk18 ((Kept.refl [] w18).alloc (.cells #[.slice (some ⟨gp, 0, none⟩) 64 64] 28)) harr (fillOf_length _) hgp (by rw [HQ.out]; exact hown2) hk2 hat2 (by simp)
            generalize w20.setCell ⟨s, 4, none⟩ (.slice A5 (q + 1) c5) = w21 at hms2 ⊢
            have HM21 : Hid (MS w21 w g s Bz X1 X2 y3 (madeIts ks (j + 1)) (madeBks ks fill (j + 1)) (.slice A3 (j + 1) q3) (.slice A5 (q + 1) c5) (vs ++ [.slice (some ⟨gp, 0, none⟩) 64 64])) := hide (by rw [HIS.out, HBS.out]; simpa [mkItem, mkBlocks] using hms2)
            clear hms2 hown2 hk2 hat2 hS20 z4 z5 hkf hk18 e4w e4x e4 harr hgp HM11 HM hHeld
            go_wp2
            go_roundw
            case rel => exact ⟨j + 1, _, _, _, by omega, by go_num, HM21⟩
            case measure => simp [intOf]; omega
      · rw [h5]
        rw [h5] at HIS HBS
        clear h5
        go_wp2_with (at_builtin; refine wpList_append_vals rfl (.tmp 73) (.tmp 78) 22 rfl Bz 52 It.zero.val 4 32 Try.underlying22 item_info rfl (by omega) (.slice L2 j cc2) j (valsOf (madeIts ks j)) rfl (HOW.out _) [] _ 1 1 (It.vals (⟨4, (j : Int), 0, 20 + (j : Int)⟩ : It)) rfl rfl (Vals.new _ [] _ _ (by simp)) (oneCell_It _) (by simp only [maxLen]; omega) (by omega) (by simp; omega) ?_; intro v1 w10 hown1 hk1 hat1; obtain ⟨A3, q3, rfl⟩ := own_form hown1; have hS10 := hk1.blk (HM.out.rec_.alloc _) HNS.out; have y3' := hS10.cell 3; have y3f := hS10.frozen 3)
        have hms := HM.out.item hgs hsB HWG.out.2 ((Kept.refl [] wr).alloc _) (⟨4, (j : Int), 0, 20 + (j : Int)⟩ : It) (by rw [HLK.out]; exact hown1) hk1 hat1
        generalize w10.setCell ⟨s, 3, none⟩ (.slice A3 (j + 1) q3) = w11 at hms ⊢
        have HM11 := hide hms
        obtain ⟨q, hq⟩ : ∃ q, (madeBks ks fill j).length = q := ⟨_, rfl⟩
        obtain ⟨A4, c4, hu⟩ := own_form hms.blocks
        rw [hq] at hu
        subst hu
        have hbo := hms.blocks
        rw [hq] at hbo
        have HBO := hide hbo
        have HQ := hide hq
        have hq64 : q ≤ 6 := by
          have h1 := mkBks_le ks fill j
          omega
        have HNS2 : Hid (s ∉ (Value.slice A4 q c4).ownBlock.toList) := hide (fun hm => by have := (own_blk hbo s hm).1; omega)
        have e4 : (World.drew w11).cell? ⟨s, 4, none⟩ = some (.slice A4 q c4) := hms.rec_.cell 4
        have hsz2 := hms.size
        clear hms hown1 hk1 hat1 hS10 y3' y3f hbo hq
        go_wp2
        refine wp_region_noPanic ?_
        refine wp_region_held_drew (S := fun _ => True) (by kernel_rfl) (by trivial) (fun hHeld => ?_)
        refine wpAnyH_take (i := 0) (oi := ⟨some 81, _, _, _, _, _⟩) (v := ?v8) rfl (by kernel_rfl) (by kernel_rfl) (by kernel_rfl) (fun _ _ _ h => h) (Or.inl ⟨by rfl, ?hy8⟩) (by trivial) ?rest8
        case hy8 => (intro W hSw; go_simp; try with_reducible rfl)
        try simp only [Act.put, List.setIfInBounds_toArray, List.set_cons_zero, List.set_cons_succ]
        refine wpAnyH_take (i := 2) (oi := ⟨some 83, _, _, _, _, _⟩) (v := ?v9) rfl (by kernel_rfl) (by kernel_rfl) (by kernel_rfl) (fun _ _ _ h => h) (Or.inl ⟨by rfl, ?hy9⟩) (by trivial) ?rest9
        case hy9 => (intro W hSw; go_simp; try with_reducible rfl)
        try simp only [Act.put, List.setIfInBounds_toArray, List.set_cons_zero, List.set_cons_succ]
        refine wpAnyH_take (i := 3) (oi := ⟨some 84, _, _, _, _, _⟩) (v := ?v10) rfl (by kernel_rfl) (by kernel_rfl) (by kernel_rfl) (fun _ _ _ h => h) (Or.inl ⟨by rfl, ?hy10⟩) (by trivial) ?rest10
        case hy10 => (intro W hSw; go_simp; try with_reducible rfl)
        try simp only [Act.put, List.setIfInBounds_toArray, List.set_cons_zero, List.set_cons_succ]
        refine wpAnyH_take (i := 4) (oi := ⟨some 85, _, _, _, _, _⟩) (v := ?v11) rfl (by kernel_rfl) (by kernel_rfl) (by kernel_rfl) (fun _ _ _ h => h) (Or.inl ⟨by rfl, ?hy11⟩) (by trivial) ?rest11
        case hy11 => (intro W hSw; go_simp; try with_reducible rfl)
        try simp only [Act.put, List.setIfInBounds_toArray, List.set_cons_zero, List.set_cons_succ]
        refine next_two (i := 1) (j := 5) (o := ⟨some 82, _, _, _, _, _⟩) (o' := ⟨some 86, _, _, _, _, _⟩) (by kernel_rfl) rfl (by rfl) rfl (by rfl) (fun K hK => ?_) (fun K hK => ?_)
        · go_simp
          refine hK _ _ trivial ?_
          clear hK K
          try simp only [Act.put, List.setIfInBounds_toArray, List.set_cons_zero, List.set_cons_succ]
          refine held_one (i := 5) (o := ⟨some 86, _, _, _, _, _⟩) rfl (by kernel_rfl) (by rfl) (fun K hK => ?_)
          go_simp
          refine (fill_any (IntKind.i64.wrap (fill - (j : Int))) _).mono ?_
          rintro e w18 ⟨gp, rfl, hgp, harr, hkf⟩
          rw [fillOf_wrap] at harr
          have hk18 : Kept [] w11 w18 := ((Kept.refl [] w11).drewN 1).trans hkf (by simp)
          have e4w : w18.cell? ⟨s, 4, none⟩ = some (.slice A4 q c4) := hkf.cell e4 (by simp)
          have e4x : (w18.alloc (.cells #[.slice (some ⟨gp, 0, none⟩) 64 64] 28)).cell? ⟨s, 4, none⟩ = some (.slice A4 q c4) := ((Kept.refl [] w18).alloc _).cell e4w (by simp)
          refine hK.out _ _ (by trivial) (fun hHeld => ?_)
          clear hK K
          try simp only [Act.put, List.setIfInBounds_toArray, List.set_cons_zero, List.set_cons_succ]
          refine held_one (i := 6) (o := ⟨some 87, _, _, _, _, _⟩) rfl (by kernel_rfl) (by rfl) (fun K hK => ?_)
          go_simp
          refine hK.out _ _ (by trivial) (fun hHeld => ?_)
          clear hK K
          try simp only [Act.put, List.setIfInBounds_toArray, List.set_cons_zero, List.set_cons_succ]
          refine held_one (i := 7) (o := ⟨some 88, _, _, _, _, _⟩) rfl (by kernel_rfl) (by rfl) (fun K hK => ?_)
          refine wp_append_vals (o := ⟨some 88, _, _, _, _, _⟩) (.tmp 82) (.tmp 87) 23 rfl Bz 28 (.slice none 0 0) 1 24 Try.underlying23 slice_info rfl (by omega) (.slice A4 q c4) q vs (by go_simp) (own_keep (own_keep HBO.out hk18 (by simp)) ((Kept.refl [] w18).alloc _) (by simp)) [] _ 1 1 [.slice (some ⟨gp, 0, none⟩) 64 64] (by go_simp) rfl (vals_slice _ _ _) (oneCell_slice _ _ _) (by simp only [maxLen]; omega) (by omega) (by have := hk18.size; simp; omega) ?_
          intro u1 w20 hown2 hk2 hat2
          obtain ⟨A5, c5, rfl⟩ := own_form hown2
          have hS20 := hk2.blk ((hk18.blk HM11.out.rec_ (by simp)).alloc (.cells #[.slice (some ⟨gp, 0, none⟩) 64 64] 28)) HNS2.out
          have z4 := hS20.cell 4
          have z5 := hS20.frozen 4
          refine hK.out _ _ (by trivial) (fun hHeld => ?_)
          clear hK K
          try simp only [Act.put, List.setIfInBounds_toArray, List.set_cons_zero, List.set_cons_succ]
          refine wpAnyH_take (i := 8) (oi := ⟨some 89, _, _, _, _, _⟩) (v := ?v12) rfl (by kernel_rfl) (by kernel_rfl) (by kernel_rfl) (fun _ _ _ h => h) (Or.inl ⟨by rfl, ?hy12⟩) (by trivial) ?rest12
          case hy12 => (intro W hSw; go_simp; try with_reducible rfl)
          try simp only [Act.put, List.setIfInBounds_toArray, List.set_cons_zero, List.set_cons_succ]
          refine held_one (i := 9) (o := ⟨none, _, _, _, _, _⟩) rfl (by kernel_rfl) (by rfl) (fun K hK => ?_)
          go_simp
          refine hK.out _ _ (by trivial) (fun hHeld => ?_)
          clear hK K
          try simp only [Act.put, List.setIfInBounds_toArray, List.set_cons_zero, List.set_cons_succ]
          refine wpAnyH_done (by kernel_rfl) ?_ _
          refine NoPanic.normal ?_
          have hms2 := HM11.out.block hgs hsB HWG.out.2 hk18 ((Kept.refl [] w18).alloc (.cells #[.slice (some ⟨gp, 0, none⟩) 64 64] 28)) harr (fillOf_length _) hgp (by rw [HQ.out]; exact hown2) hk2 hat2 (by simp)
          generalize w20.setCell ⟨s, 4, none⟩ (.slice A5 (q + 1) c5) = w21 at hms2 ⊢
          have HM21 : Hid (MS w21 w g s Bz X1 X2 y3 (madeIts ks (j + 1)) (madeBks ks fill (j + 1)) (.slice A3 (j + 1) q3) (.slice A5 (q + 1) c5) (vs ++ [.slice (some ⟨gp, 0, none⟩) 64 64])) := hide (by rw [HIS.out, HBS.out]; simpa [mkItem, mkBlocks] using hms2)
          clear hms2 hown2 hk2 hat2 hS20 z4 z5 hkf hk18 e4w e4x e4 harr hgp HM11 HM hHeld
          go_wp2
          go_roundw
          case rel => exact ⟨j + 1, _, _, _, by omega, by go_num, HM21⟩
          case measure => simp [intOf]; omega
        · go_simp
          refine (fill_any (IntKind.i64.wrap (fill - (j : Int))) _).mono ?_
          rintro e w18 ⟨gp, rfl, hgp, harr, hkf⟩
          rw [fillOf_wrap] at harr
          have hk18 : Kept [] w11 w18 := ((Kept.refl [] w11).drewN 1).trans hkf (by simp)
          have e4w : w18.cell? ⟨s, 4, none⟩ = some (.slice A4 q c4) := hkf.cell e4 (by simp)
          have e4x : (w18.alloc (.cells #[.slice (some ⟨gp, 0, none⟩) 64 64] 28)).cell? ⟨s, 4, none⟩ = some (.slice A4 q c4) := ((Kept.refl [] w18).alloc _).cell e4w (by simp)
          refine hK _ _ trivial ?_
          clear hK K
          try simp only [Act.put, List.setIfInBounds_toArray, List.set_cons_zero, List.set_cons_succ]
          refine next_two (i := 1) (j := 6) (o := ⟨some 82, _, _, _, _, _⟩) (o' := ⟨some 87, _, _, _, _, _⟩) (by kernel_rfl) rfl (by rfl) rfl (by rfl) (fun K hK => ?_) (fun K hK => ?_)
          · go_simp
            refine hK _ _ trivial ?_
            clear hK K
            try simp only [Act.put, List.setIfInBounds_toArray, List.set_cons_zero, List.set_cons_succ]
            refine held_one (i := 6) (o := ⟨some 87, _, _, _, _, _⟩) rfl (by kernel_rfl) (by rfl) (fun K hK => ?_)
            go_simp
            refine hK.out _ _ (by trivial) (fun hHeld => ?_)
            clear hK K
            try simp only [Act.put, List.setIfInBounds_toArray, List.set_cons_zero, List.set_cons_succ]
            refine held_one (i := 7) (o := ⟨some 88, _, _, _, _, _⟩) rfl (by kernel_rfl) (by rfl) (fun K hK => ?_)
            refine wp_append_vals (o := ⟨some 88, _, _, _, _, _⟩) (.tmp 82) (.tmp 87) 23 rfl Bz 28 (.slice none 0 0) 1 24 Try.underlying23 slice_info rfl (by omega) (.slice A4 q c4) q vs (by go_simp) (own_keep (own_keep HBO.out hk18 (by simp)) ((Kept.refl [] w18).alloc _) (by simp)) [] _ 1 1 [.slice (some ⟨gp, 0, none⟩) 64 64] (by go_simp) rfl (vals_slice _ _ _) (oneCell_slice _ _ _) (by simp only [maxLen]; omega) (by omega) (by have := hk18.size; simp; omega) ?_
            intro u1 w20 hown2 hk2 hat2
            obtain ⟨A5, c5, rfl⟩ := own_form hown2
            have hS20 := hk2.blk ((hk18.blk HM11.out.rec_ (by simp)).alloc (.cells #[.slice (some ⟨gp, 0, none⟩) 64 64] 28)) HNS2.out
            have z4 := hS20.cell 4
            have z5 := hS20.frozen 4
            refine hK.out _ _ (by trivial) (fun hHeld => ?_)
            clear hK K
            try simp only [Act.put, List.setIfInBounds_toArray, List.set_cons_zero, List.set_cons_succ]
            refine wpAnyH_take (i := 8) (oi := ⟨some 89, _, _, _, _, _⟩) (v := ?v13) rfl (by kernel_rfl) (by kernel_rfl) (by kernel_rfl) (fun _ _ _ h => h) (Or.inl ⟨by rfl, ?hy13⟩) (by trivial) ?rest13
            case hy13 => (intro W hSw; go_simp; try with_reducible rfl)
            try simp only [Act.put, List.setIfInBounds_toArray, List.set_cons_zero, List.set_cons_succ]
            refine held_one (i := 9) (o := ⟨none, _, _, _, _, _⟩) rfl (by kernel_rfl) (by rfl) (fun K hK => ?_)
            go_simp
            refine hK.out _ _ (by trivial) (fun hHeld => ?_)
            clear hK K
            try simp only [Act.put, List.setIfInBounds_toArray, List.set_cons_zero, List.set_cons_succ]
            refine wpAnyH_done (by kernel_rfl) ?_ _
            refine NoPanic.normal ?_
            have hms2 := HM11.out.block hgs hsB HWG.out.2 hk18 ((Kept.refl [] w18).alloc (.cells #[.slice (some ⟨gp, 0, none⟩) 64 64] 28)) harr (fillOf_length _) hgp (by rw [HQ.out]; exact hown2) hk2 hat2 (by simp)
            generalize w20.setCell ⟨s, 4, none⟩ (.slice A5 (q + 1) c5) = w21 at hms2 ⊢
            have HM21 : Hid (MS w21 w g s Bz X1 X2 y3 (madeIts ks (j + 1)) (madeBks ks fill (j + 1)) (.slice A3 (j + 1) q3) (.slice A5 (q + 1) c5) (vs ++ [.slice (some ⟨gp, 0, none⟩) 64 64])) := hide (by rw [HIS.out, HBS.out]; simpa [mkItem, mkBlocks] using hms2)
            clear hms2 hown2 hk2 hat2 hS20 z4 z5 hkf hk18 e4w e4x e4 harr hgp HM11 HM hHeld
            go_wp2
            go_roundw
            case rel => exact ⟨j + 1, _, _, _, by omega, by go_num, HM21⟩
            case measure => simp [intOf]; omega
          · go_simp
            refine hK _ _ trivial ?_
            clear hK K
            try simp only [Act.put, List.setIfInBounds_toArray, List.set_cons_zero, List.set_cons_succ]
            refine held_one (i := 1) (o := ⟨some 82, _, _, _, _, _⟩) rfl (by kernel_rfl) (by rfl) (fun K hK => ?_)
            go_simp
            refine hK.out _ _ (by trivial) (fun hHeld => ?_)
            clear hK K
            try simp only [Act.put, List.setIfInBounds_toArray, List.set_cons_zero, List.set_cons_succ]
            refine held_one (i := 7) (o := ⟨some 88, _, _, _, _, _⟩) rfl (by kernel_rfl) (by rfl) (fun K hK => ?_)
            refine wp_append_vals (o := ⟨some 88, _, _, _, _, _⟩) (.tmp 82) (.tmp 87) 23 rfl Bz 28 (.slice none 0 0) 1 24 Try.underlying23 slice_info rfl (by omega) (.slice A4 q c4) q vs (by go_simp) (own_keep (own_keep HBO.out hk18 (by simp)) ((Kept.refl [] w18).alloc _) (by simp)) [] _ 1 1 [.slice (some ⟨gp, 0, none⟩) 64 64] (by go_simp) rfl (vals_slice _ _ _) (oneCell_slice _ _ _) (by simp only [maxLen]; omega) (by omega) (by have := hk18.size; simp; omega) ?_
            intro u1 w20 hown2 hk2 hat2
            obtain ⟨A5, c5, rfl⟩ := own_form hown2
            have hS20 := hk2.blk ((hk18.blk HM11.out.rec_ (by simp)).alloc (.cells #[.slice (some ⟨gp, 0, none⟩) 64 64] 28)) HNS2.out
            have z4 := hS20.cell 4
            have z5 := hS20.frozen 4
            refine hK.out _ _ (by trivial) (fun hHeld => ?_)
            clear hK K
            try simp only [Act.put, List.setIfInBounds_toArray, List.set_cons_zero, List.set_cons_succ]
            refine wpAnyH_take (i := 8) (oi := ⟨some 89, _, _, _, _, _⟩) (v := ?v14) rfl (by kernel_rfl) (by kernel_rfl) (by kernel_rfl) (fun _ _ _ h => h) (Or.inl ⟨by rfl, ?hy14⟩) (by trivial) ?rest14
            case hy14 => (intro W hSw; go_simp; try with_reducible rfl)
            try simp only [Act.put, List.setIfInBounds_toArray, List.set_cons_zero, List.set_cons_succ]
            refine held_one (i := 9) (o := ⟨none, _, _, _, _, _⟩) rfl (by kernel_rfl) (by rfl) (fun K hK => ?_)
            go_simp
            refine hK.out _ _ (by trivial) (fun hHeld => ?_)
            clear hK K
            try simp only [Act.put, List.setIfInBounds_toArray, List.set_cons_zero, List.set_cons_succ]
            refine wpAnyH_done (by kernel_rfl) ?_ _
            refine NoPanic.normal ?_
            have hms2 := HM11.out.block hgs hsB HWG.out.2 hk18 ((Kept.refl [] w18).alloc (.cells #[.slice (some ⟨gp, 0, none⟩) 64 64] 28)) harr (fillOf_length _) hgp (by rw [HQ.out]; exact hown2) hk2 hat2 (by simp)
            generalize w20.setCell ⟨s, 4, none⟩ (.slice A5 (q + 1) c5) = w21 at hms2 ⊢
            have HM21 : Hid (MS w21 w g s Bz X1 X2 y3 (madeIts ks (j + 1)) (madeBks ks fill (j + 1)) (.slice A3 (j + 1) q3) (.slice A5 (q + 1) c5) (vs ++ [.slice (some ⟨gp, 0, none⟩) 64 64])) := hide (by rw [HIS.out, HBS.out]; simpa [mkItem, mkBlocks] using hms2)
            clear hms2 hown2 hk2 hat2 hS20 z4 z5 hkf hk18 e4w e4x e4 harr hgp HM11 HM hHeld
            go_wp2
            go_roundw
            case rel => exact ⟨j + 1, _, _, _, by omega, by go_num, HM21⟩
            case measure => simp [intOf]; omega
      · rw [h5]
        rw [h5] at HIS HBS
        clear h5
        go_wp2_with (at_builtin; refine wpList_append_vals rfl (.tmp 93) (.tmp 96) 22 rfl Bz 52 It.zero.val 4 32 Try.underlying22 item_info rfl (by omega) (.slice L2 j cc2) j (valsOf (madeIts ks j)) rfl (HOW.out _) [] _ 1 1 (It.vals (⟨5, (j : Int), 0, 0⟩ : It)) rfl rfl (Vals.new _ [] _ _ (by simp)) (oneCell_It _) (by simp only [maxLen]; omega) (by omega) (by simp; omega) ?_; intro v1 w10 hown1 hk1 hat1; obtain ⟨A3, q3, rfl⟩ := own_form hown1; have hS10 := hk1.blk (HM.out.rec_.alloc _) HNS.out; have y3' := hS10.cell 3; have y3f := hS10.frozen 3)
        have hms := HM.out.item hgs hsB HWG.out.2 ((Kept.refl [] wr).alloc _) (⟨5, (j : Int), 0, 0⟩ : It) (by rw [HLK.out]; exact hown1) hk1 hat1
        generalize w10.setCell ⟨s, 3, none⟩ (.slice A3 (j + 1) q3) = w11 at hms ⊢
        have HM11 := hide hms
        obtain ⟨q, hq⟩ : ∃ q, (madeBks ks fill j).length = q := ⟨_, rfl⟩
        obtain ⟨A4, c4, hu⟩ := own_form hms.blocks
        rw [hq] at hu
        subst hu
        have hbo := hms.blocks
        rw [hq] at hbo
        have HBO := hide hbo
        have HQ := hide hq
        have hq64 : q ≤ 6 := by
          have h1 := mkBks_le ks fill j
          omega
        have HNS2 : Hid (s ∉ (Value.slice A4 q c4).ownBlock.toList) := hide (fun hm => by have := (own_blk hbo s hm).1; omega)
        have e4 : (World.drew w11).cell? ⟨s, 4, none⟩ = some (.slice A4 q c4) := hms.rec_.cell 4
        have hsz2 := hms.size
        clear hms hown1 hk1 hat1 hS10 y3' y3f hbo hq
        have hmk : ∀ w : World, (Instr.makeSlice 28 (.int .i64 64) (.int .i64 64)).run Try.prog w = .ok (.slice (some ⟨w.heap.size, 0, none⟩) 64 64) (w.alloc (.cells (madeCells #[.int .u8 0] 64) 5)) :=
          run_make_row' (P := Try.prog) 28 5 (.int .u8 0) 1 (by kernel_rfl) (by kernel_rfl) rfl .i64 .i64 64 (by omega) (by omega)
        go_wp2
        refine wp_region_noPanic ?_
        refine wp_region_held_drew (S := fun _ => True) (by kernel_rfl) (by trivial) (fun hHeld => ?_)
        refine wpAnyH_take (i := 0) (oi := ⟨some 99, _, _, _, _, _⟩) (v := ?v15) rfl (by kernel_rfl) (by kernel_rfl) (by kernel_rfl) (fun _ _ _ h => h) (Or.inl ⟨by rfl, ?hy15⟩) (by trivial) ?rest15
        case hy15 => (intro W hSw; go_simp; try with_reducible rfl)
        try simp only [Act.put, List.setIfInBounds_toArray, List.set_cons_zero, List.set_cons_succ]
        refine next_two (i := 1) (j := 2) (o := ⟨some 100, _, _, _, _, _⟩) (o' := ⟨some 101, _, _, _, _, _⟩) (by kernel_rfl) rfl (by rfl) rfl (by rfl) (fun K hK => ?_) (fun K hK => ?_)
        · go_simp
          refine hK _ _ trivial ?_
          clear hK K
          try simp only [Act.put, List.setIfInBounds_toArray, List.set_cons_zero, List.set_cons_succ]
          refine held_one (i := 2) (o := ⟨some 101, _, _, _, _, _⟩) rfl (by kernel_rfl) (by rfl) (fun K hK => ?_)
          go_simp
          have harr : Arr (w11.alloc (.cells (madeCells #[.int .u8 0] 64) 5)).drew w11.heap.size 64 (List.replicate 64 0) := arr_zeros w11
          have hgp : w11.heap.size ≤ w11.heap.size := Nat.le_refl _
          have hkz := ((Kept.refl [] w11).alloc (.cells (madeCells #[.int .u8 0] 64) 5)).drew
          have hkf : Kept [] (World.drew w11) (w11.alloc (.cells (madeCells #[.int .u8 0] 64) 5)).drew := ⟨hkz.os, hkz.tape, hkz.output, hkz.size, hkz.block⟩
          clear hkz
          obtain ⟨gp, hgpe⟩ : ∃ gp, w11.heap.size = gp := ⟨_, rfl⟩
          rw [hgpe] at harr ⊢
          have hgp : w11.heap.size ≤ gp := Nat.le_of_eq hgpe
          generalize (w11.alloc (.cells (madeCells #[.int .u8 0] 64) 5)).drew = w18 at harr hkf ⊢
          have hk18 : Kept [] w11 w18 := ((Kept.refl [] w11).drewN 1).trans hkf (by simp)
          have e4w : w18.cell? ⟨s, 4, none⟩ = some (.slice A4 q c4) := hkf.cell e4 (by simp)
          have e4x : (w18.alloc (.cells #[.slice (some ⟨gp, 0, none⟩) 64 64] 28)).cell? ⟨s, 4, none⟩ = some (.slice A4 q c4) := ((Kept.refl [] w18).alloc _).cell e4w (by simp)
          clear hgpe
          refine hK.out _ _ (by trivial) (fun hHeld => ?_)
          clear hK K
          try simp only [Act.put, List.setIfInBounds_toArray, List.set_cons_zero, List.set_cons_succ]
          refine held_one (i := 3) (o := ⟨some 102, _, _, _, _, _⟩) rfl (by kernel_rfl) (by rfl) (fun K hK => ?_)
          go_simp
          refine hK.out _ _ (by trivial) (fun hHeld => ?_)
          clear hK K
          try simp only [Act.put, List.setIfInBounds_toArray, List.set_cons_zero, List.set_cons_succ]
          refine held_one (i := 4) (o := ⟨some 103, _, _, _, _, _⟩) rfl (by kernel_rfl) (by rfl) (fun K hK => ?_)
          refine wp_append_vals (o := ⟨some 103, _, _, _, _, _⟩) (.tmp 100) (.tmp 102) 23 rfl Bz 28 (.slice none 0 0) 1 24 Try.underlying23 slice_info rfl (by omega) (.slice A4 q c4) q vs (by go_simp) (own_keep (own_keep HBO.out hk18 (by simp)) ((Kept.refl [] w18).alloc _) (by simp)) [] _ 1 1 [.slice (some ⟨gp, 0, none⟩) 64 64] (by go_simp) rfl (vals_slice _ _ _) (oneCell_slice _ _ _) (by simp only [maxLen]; omega) (by omega) (by have := hk18.size; simp; omega) ?_
          intro u1 w20 hown2 hk2 hat2
          obtain ⟨A5, c5, rfl⟩ := own_form hown2
          have hS20 := hk2.blk ((hk18.blk HM11.out.rec_ (by simp)).alloc (.cells #[.slice (some ⟨gp, 0, none⟩) 64 64] 28)) HNS2.out
          have z4 := hS20.cell 4
          have z5 := hS20.frozen 4
          refine hK.out _ _ (by trivial) (fun hHeld => ?_)
          clear hK K
          try simp only [Act.put, List.setIfInBounds_toArray, List.set_cons_zero, List.set_cons_succ]
          refine wpAnyH_take (i := 5) (oi := ⟨some 104, _, _, _, _, _⟩) (v := ?v16) rfl (by kernel_rfl) (by kernel_rfl) (by kernel_rfl) (fun _ _ _ h => h) (Or.inl ⟨by rfl, ?hy16⟩) (by trivial) ?rest16
          case hy16 => (intro W hSw; go_simp; try with_reducible rfl)
          try simp only [Act.put, List.setIfInBounds_toArray, List.set_cons_zero, List.set_cons_succ]
          refine held_one (i := 6) (o := ⟨none, _, _, _, _, _⟩) rfl (by kernel_rfl) (by rfl) (fun K hK => ?_)
          go_simp
          refine hK.out _ _ (by trivial) (fun hHeld => ?_)
          clear hK K
          try simp only [Act.put, List.setIfInBounds_toArray, List.set_cons_zero, List.set_cons_succ]
          refine wpAnyH_done (by kernel_rfl) ?_ _
          refine NoPanic.normal ?_
          have hms2 := HM11.out.block hgs hsB HWG.out.2 hk18 ((Kept.refl [] w18).alloc (.cells #[.slice (some ⟨gp, 0, none⟩) 64 64] 28)) harr (by simp) hgp (by rw [HQ.out]; exact hown2) hk2 hat2 (by simp)
          generalize w20.setCell ⟨s, 4, none⟩ (.slice A5 (q + 1) c5) = w21 at hms2 ⊢
          have HM21 : Hid (MS w21 w g s Bz X1 X2 y3 (madeIts ks (j + 1)) (madeBks ks fill (j + 1)) (.slice A3 (j + 1) q3) (.slice A5 (q + 1) c5) (vs ++ [.slice (some ⟨gp, 0, none⟩) 64 64])) := hide (by rw [HIS.out, HBS.out]; simpa [mkItem, mkBlocks] using hms2)
          clear hms2 hown2 hk2 hat2 hS20 z4 z5 hkf hk18 e4w e4x e4 harr hgp HM11 HM hHeld
          go_wp2
          go_roundw
          case rel => exact ⟨j + 1, _, _, _, by omega, by go_num, HM21⟩
          case measure => simp [intOf]; omega
        · go_simp
          have harr : Arr (w11.alloc (.cells (madeCells #[.int .u8 0] 64) 5)).drew w11.heap.size 64 (List.replicate 64 0) := arr_zeros w11
          have hgp : w11.heap.size ≤ w11.heap.size := Nat.le_refl _
          have hkz := ((Kept.refl [] w11).alloc (.cells (madeCells #[.int .u8 0] 64) 5)).drew
          have hkf : Kept [] (World.drew w11) (w11.alloc (.cells (madeCells #[.int .u8 0] 64) 5)).drew := ⟨hkz.os, hkz.tape, hkz.output, hkz.size, hkz.block⟩
          clear hkz
          obtain ⟨gp, hgpe⟩ : ∃ gp, w11.heap.size = gp := ⟨_, rfl⟩
          rw [hgpe] at harr ⊢
          have hgp : w11.heap.size ≤ gp := Nat.le_of_eq hgpe
          generalize (w11.alloc (.cells (madeCells #[.int .u8 0] 64) 5)).drew = w18 at harr hkf ⊢
          have hk18 : Kept [] w11 w18 := ((Kept.refl [] w11).drewN 1).trans hkf (by simp)
          have e4w : w18.cell? ⟨s, 4, none⟩ = some (.slice A4 q c4) := hkf.cell e4 (by simp)
          have e4x : (w18.alloc (.cells #[.slice (some ⟨gp, 0, none⟩) 64 64] 28)).cell? ⟨s, 4, none⟩ = some (.slice A4 q c4) := ((Kept.refl [] w18).alloc _).cell e4w (by simp)
          clear hgpe
          refine hK _ _ trivial ?_
          clear hK K
          try simp only [Act.put, List.setIfInBounds_toArray, List.set_cons_zero, List.set_cons_succ]
          refine next_two (i := 1) (j := 3) (o := ⟨some 100, _, _, _, _, _⟩) (o' := ⟨some 102, _, _, _, _, _⟩) (by kernel_rfl) rfl (by rfl) rfl (by rfl) (fun K hK => ?_) (fun K hK => ?_)
          · go_simp
            refine hK _ _ trivial ?_
            clear hK K
            try simp only [Act.put, List.setIfInBounds_toArray, List.set_cons_zero, List.set_cons_succ]
            refine held_one (i := 3) (o := ⟨some 102, _, _, _, _, _⟩) rfl (by kernel_rfl) (by rfl) (fun K hK => ?_)
            go_simp
            refine hK.out _ _ (by trivial) (fun hHeld => ?_)
            clear hK K
            try simp only [Act.put, List.setIfInBounds_toArray, List.set_cons_zero, List.set_cons_succ]
            refine held_one (i := 4) (o := ⟨some 103, _, _, _, _, _⟩) rfl (by kernel_rfl) (by rfl) (fun K hK => ?_)
            refine wp_append_vals (o := ⟨some 103, _, _, _, _, _⟩) (.tmp 100) (.tmp 102) 23 rfl Bz 28 (.slice none 0 0) 1 24 Try.underlying23 slice_info rfl (by omega) (.slice A4 q c4) q vs (by go_simp) (own_keep (own_keep HBO.out hk18 (by simp)) ((Kept.refl [] w18).alloc _) (by simp)) [] _ 1 1 [.slice (some ⟨gp, 0, none⟩) 64 64] (by go_simp) rfl (vals_slice _ _ _) (oneCell_slice _ _ _) (by simp only [maxLen]; omega) (by omega) (by have := hk18.size; simp; omega) ?_
            intro u1 w20 hown2 hk2 hat2
            obtain ⟨A5, c5, rfl⟩ := own_form hown2
            have hS20 := hk2.blk ((hk18.blk HM11.out.rec_ (by simp)).alloc (.cells #[.slice (some ⟨gp, 0, none⟩) 64 64] 28)) HNS2.out
            have z4 := hS20.cell 4
            have z5 := hS20.frozen 4
            refine hK.out _ _ (by trivial) (fun hHeld => ?_)
            clear hK K
            try simp only [Act.put, List.setIfInBounds_toArray, List.set_cons_zero, List.set_cons_succ]
            refine wpAnyH_take (i := 5) (oi := ⟨some 104, _, _, _, _, _⟩) (v := ?v17) rfl (by kernel_rfl) (by kernel_rfl) (by kernel_rfl) (fun _ _ _ h => h) (Or.inl ⟨by rfl, ?hy17⟩) (by trivial) ?rest17
            case hy17 => (intro W hSw; go_simp; try with_reducible rfl)
            try simp only [Act.put, List.setIfInBounds_toArray, List.set_cons_zero, List.set_cons_succ]
            refine held_one (i := 6) (o := ⟨none, _, _, _, _, _⟩) rfl (by kernel_rfl) (by rfl) (fun K hK => ?_)
            go_simp
            refine hK.out _ _ (by trivial) (fun hHeld => ?_)
            clear hK K
            try simp only [Act.put, List.setIfInBounds_toArray, List.set_cons_zero, List.set_cons_succ]
            refine wpAnyH_done (by kernel_rfl) ?_ _
            refine NoPanic.normal ?_
            have hms2 := HM11.out.block hgs hsB HWG.out.2 hk18 ((Kept.refl [] w18).alloc (.cells #[.slice (some ⟨gp, 0, none⟩) 64 64] 28)) harr (by simp) hgp (by rw [HQ.out]; exact hown2) hk2 hat2 (by simp)
            generalize w20.setCell ⟨s, 4, none⟩ (.slice A5 (q + 1) c5) = w21 at hms2 ⊢
            have HM21 : Hid (MS w21 w g s Bz X1 X2 y3 (madeIts ks (j + 1)) (madeBks ks fill (j + 1)) (.slice A3 (j + 1) q3) (.slice A5 (q + 1) c5) (vs ++ [.slice (some ⟨gp, 0, none⟩) 64 64])) := hide (by rw [HIS.out, HBS.out]; simpa [mkItem, mkBlocks] using hms2)
            clear hms2 hown2 hk2 hat2 hS20 z4 z5 hkf hk18 e4w e4x e4 harr hgp HM11 HM hHeld
            go_wp2
            go_roundw
            case rel => exact ⟨j + 1, _, _, _, by omega, by go_num, HM21⟩
            case measure => simp [intOf]; omega
          · go_simp
            refine hK _ _ trivial ?_
            clear hK K
            try simp only [Act.put, List.setIfInBounds_toArray, List.set_cons_zero, List.set_cons_succ]
            refine held_one (i := 1) (o := ⟨some 100, _, _, _, _, _⟩) rfl (by kernel_rfl) (by rfl) (fun K hK => ?_)
            go_simp
            refine hK.out _ _ (by trivial) (fun hHeld => ?_)
            clear hK K
            try simp only [Act.put, List.setIfInBounds_toArray, List.set_cons_zero, List.set_cons_succ]
            refine held_one (i := 4) (o := ⟨some 103, _, _, _, _, _⟩) rfl (by kernel_rfl) (by rfl) (fun K hK => ?_)
            refine wp_append_vals (o := ⟨some 103, _, _, _, _, _⟩) (.tmp 100) (.tmp 102) 23 rfl Bz 28 (.slice none 0 0) 1 24 Try.underlying23 slice_info rfl (by omega) (.slice A4 q c4) q vs (by go_simp) (own_keep (own_keep HBO.out hk18 (by simp)) ((Kept.refl [] w18).alloc _) (by simp)) [] _ 1 1 [.slice (some ⟨gp, 0, none⟩) 64 64] (by go_simp) rfl (vals_slice _ _ _) (oneCell_slice _ _ _) (by simp only [maxLen]; omega) (by omega) (by have := hk18.size; simp; omega) ?_
            intro u1 w20 hown2 hk2 hat2
            obtain ⟨A5, c5, rfl⟩ := own_form hown2
            have hS20 := hk2.blk ((hk18.blk HM11.out.rec_ (by simp)).alloc (.cells #[.slice (some ⟨gp, 0, none⟩) 64 64] 28)) HNS2.out
            have z4 := hS20.cell 4
            have z5 := hS20.frozen 4
            refine hK.out _ _ (by trivial) (fun hHeld => ?_)
            clear hK K
            try simp only [Act.put, List.setIfInBounds_toArray, List.set_cons_zero, List.set_cons_succ]
            refine wpAnyH_take (i := 5) (oi := ⟨some 104, _, _, _, _, _⟩) (v := ?v18) rfl (by kernel_rfl) (by kernel_rfl) (by kernel_rfl) (fun _ _ _ h => h) (Or.inl ⟨by rfl, ?hy18⟩) (by trivial) ?rest18
            case hy18 => (intro W hSw; go_simp; try with_reducible rfl)
            try simp only [Act.put, List.setIfInBounds_toArray, List.set_cons_zero, List.set_cons_succ]
            refine held_one (i := 6) (o := ⟨none, _, _, _, _, _⟩) rfl (by kernel_rfl) (by rfl) (fun K hK => ?_)
            go_simp
            refine hK.out _ _ (by trivial) (fun hHeld => ?_)
            clear hK K
            try simp only [Act.put, List.setIfInBounds_toArray, List.set_cons_zero, List.set_cons_succ]
            refine wpAnyH_done (by kernel_rfl) ?_ _
            refine NoPanic.normal ?_
            have hms2 := HM11.out.block hgs hsB HWG.out.2 hk18 ((Kept.refl [] w18).alloc (.cells #[.slice (some ⟨gp, 0, none⟩) 64 64] 28)) harr (by simp) hgp (by rw [HQ.out]; exact hown2) hk2 hat2 (by simp)
            generalize w20.setCell ⟨s, 4, none⟩ (.slice A5 (q + 1) c5) = w21 at hms2 ⊢
            have HM21 : Hid (MS w21 w g s Bz X1 X2 y3 (madeIts ks (j + 1)) (madeBks ks fill (j + 1)) (.slice A3 (j + 1) q3) (.slice A5 (q + 1) c5) (vs ++ [.slice (some ⟨gp, 0, none⟩) 64 64])) := hide (by rw [HIS.out, HBS.out]; simpa [mkItem, mkBlocks] using hms2)
            clear hms2 hown2 hk2 hat2 hS20 z4 z5 hkf hk18 e4w e4x e4 harr hgp HM11 HM hHeld
            go_wp2
            go_roundw
            case rel => exact ⟨j + 1, _, _, _, by omega, by go_num, HM21⟩
            case measure => simp [intOf]; omega
    · obtain rfl : j = n := by omega
      have hms := HM.out
      have hlk := madeIts_len ks j
      obtain ⟨L2, cc2, hv2⟩ := own_form (show wr.ownsRow Bz 52 4 v (madeIts ks j).length (valsOf (madeIts ks j)) from hms.items)
      obtain ⟨A4, c4, hu⟩ := own_form hms.blocks
      obtain ⟨L3, q3, hv3, _, _, hit, _⟩ := hms.items.slice
      obtain ⟨A5, c5, hu3, _, _, hbv, _⟩ := base.own_slice hms.blocks
      subst hv2
      subst hu
      cases hv3
      cases hu3
      obtain ⟨q, hq⟩ : ∃ q, (madeBks ks fill j).length = q := ⟨_, rfl⟩
      have hrg : RcIn wr [g] L2 j A4 q (made ks lsn prev fill) := by
        rw [HMD.out]
        exact ⟨hlk, hq, hit [g] (by simp; omega), vs, hms.parts.less (by simp), hbv [g] (by simp; omega)⟩
      have HRG := hide hrg
      have hrec := hms.rec_
      rw [hlk, hq] at hrec
      obtain ⟨c0, c1, c2, c3, c4'⟩ := cell5 hrec
      obtain ⟨d0, d1, d2, d3, d4⟩ := cell5 hms.zero
      have f0 := hms.zero.frozen 0
      have f1 := hms.zero.frozen 1
      have f2 := hms.zero.frozen 2
      have f3 := hms.zero.frozen 3
      have f4 := hms.zero.frozen 4
      have HBW := hide (put5 (.int .i64 X1) (.int .i64 X2) (.int .i64 y3) (.slice L2 j cc2) (.slice A4 q c4) hms.zero)
      have HKW := hide (put5_kept (g := g) (S := []) (.int .i64 X1) (.int .i64 X2) (.int .i64 y3) (.slice L2 j cc2) (.slice A4 q c4) hms.kept (.inr HWG.out.1))
      have HRW := hide (hrg.kept (put5_kept (g := g) (S := [g]) (.int .i64 X1) (.int .i64 X2) (.int .i64 y3) (.slice L2 j cc2) (.slice A4 q c4) (Kept.refl [g] wr) (.inl (by simp))) (by simp))
      clear hms hrg hrec hit hbv hlk hq HM
      go_wp2
      generalize (((((wr.setCell ⟨g, 0, none⟩ (.int .i64 X1)).setCell ⟨g, 1, none⟩ (.int .i64 X2)).setCell ⟨g, 2, none⟩ (.int .i64 y3)).setCell ⟨g, 3, none⟩ (.slice L2 j cc2)).setCell ⟨g, 4, none⟩ (.slice A4 q c4)) = W at HBW HKW HRW ⊢
      obtain ⟨t0, t1, t2, t3, t4⟩ := cell5 HBW.out
      refine bodyPost_ret (v := .agg #[.int .i64 X1, .int .i64 X2, .int .i64 y3, .slice L2 j cc2, .slice A4 q c4]) ?_ rfl ⟨L2, j, cc2, A4, q, c4, by rw [HMD.out], HRW.out.at_, HKW.out⟩
      simp [results, Try.results21, go_sem, t0, t1, t2, t3, t4]
end Go.Proofs.Ytepooidgmaokeaa.record
