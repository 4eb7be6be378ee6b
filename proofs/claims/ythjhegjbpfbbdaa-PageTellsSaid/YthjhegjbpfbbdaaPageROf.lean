/- The reference's PageOf. -/
import Derived.Test.YthjhegjbpfbbdaaPageRef
namespace Go.Proofs.Ythjhegjbpfbbdaa.pg
open Go.RowKit Go.Proofs.Ythjhegjbpfbbdaa.mem Go.Proofs.Ythjhegjbpfbbdaa.row Go.Proofs.Ythjhegjbpfbbdaa.rowBack Go.Proofs.Ythjhegjbpfbbdaa.fill Go.Proofs.Ythjhegjbpfbbdaa.crc Go.Proofs.Ythjhegjbpfbbdaa.crcMath Go.Proofs.Ythjhegjbpfbbdaa.ref Go.Proofs.Ythjhegjbpfbbdaa.owns


theorem requal_any (A1 A2 : Option Addr) (n1 n2 c1 c2 : Nat) (xs ys : List UInt8) (w : World) (hn1 : xs.length = n1) (hn2 : ys.length = n2) (h1 : Vals w [] A1 (xs.map B)) (h2 : Vals w [] A2 (ys.map B)) (hm : n1 ≤ 140737488355328) :
    Calls Try.prog 28 #[.slice A1 n1 c1, .slice A2 n2 c2] w fun e w' => e = .returned (.bool (decide (xs = ys))) ∧ Kept [] w w' := by
  subst hn1 hn2
  exact (base.equal_any A1 A2 c1 c2 xs ys w h1 h2 hm).mono fun e w' ⟨h, k, hw⟩ => ⟨h, by subst hw; exact (Kept.refl [] w).drewN k⟩

theorem rof_long (A : Option Addr) (n c : Nat) (bs : List UInt8) (w : World) (hl : bs.length = n) (h : n ≠ 64) :
    Calls Try.prog 10 #[.slice A n c] w fun e w' => ∃ A' n' c', e = .returned (.tuple #[.slice A' n' c', .int .i64 (decode bs).2]) ∧ (decode bs).1.length = n' ∧ Vals w' [] A' ((decode bs).1.map I) ∧ Kept [] w w' := by
  have g1 : ((n : Int) != 64) = true := by rw [bne_iff_ne]; omega
  have HD := hide (decode_len bs (by rw [hl]; exact h))
  clear h hl
  go_enter Try.func10, Try.ntmps10
  go_wp2
  go_ret2
  exact ⟨none, 0, 0, by rw [HD.out]; rfl, by rw [HD.out]; rfl, by rw [HD.out]; exact Vals.nil _ _ _, Kept.refl _ _⟩

theorem rread_zero (bs : List UInt8) : rreadK bs 0 = [] := rfl

set_option maxRecDepth 100000 in
set_option maxHeartbeats 1000000 in
theorem rof_in (A : Option Addr) (c : Nat) (bs : List UInt8) (w : World) (hv : Vals w [] A (bs.map B)) (hl : bs.length = 64) (hc : 64 ≤ c) :
    Calls Try.prog 10 #[.slice A 64 c] w fun e w' => ∃ A' n' c', e = .returned (.tuple #[.slice A' n' c', .int .i64 (decode bs).2]) ∧ (decode bs).1.length = n' ∧ Vals w' [] A' ((decode bs).1.map I) ∧ Kept [] w w' := by
  have HV := hide hv
  have HL := hide hl
  clear hv hl
  go_enter Try.func10, Try.ntmps10
  go_wp2_with fail
  refine (rfrom_ok A 64 c bs _ HL.out hc HV.out (by omega)).mono ?_
  rintro e w2 ⟨p, g, rfl, hp, hg, hr, hk⟩
  have HR2 : Hid (RefAt w2 p g (rk bs 0)) := hide hr
  have HK2 := hide hk
  obtain ⟨Bz, hBz⟩ : ∃ Bz, w2.heap.size = Bz := ⟨_, rfl⟩
  have hpB : p < Bz := by have := hr.lt; omega
  have hgB : g < Bz := by have := hr.blt; omega
  have hwB : w.heap.size ≤ Bz := by have := hk.size; omega
  have HP := hide hp
  have HO2 : Hid (w2.ownsRow Bz 3 1 (.slice none 0 0) 0 ((rreadK bs 0).map I)) := hide (World.ownsRow_nil _ _ _ _)
  have HBz : Hid (Bz ≤ w2.heap.size) := hide (Nat.le_of_eq hBz.symm)
  clear hr hk hp hg hBz
  go_wp2
  go_loopw [5, 6] (fun v i wr => ∃ j : Nat, j ≤ 15 ∧ i = .int .i64 j ∧ Hid (RefAt wr p g (rk bs j)) ∧ Hid (wr.ownsRow Bz 3 1 v j ((rreadK bs j).map I)) ∧ Hid (Bz ≤ wr.heap.size) ∧ Hid (Kept [] w wr)) (fun v i wr => 15 - (intOf i).toNat)
  case atStart => exact ⟨0, by omega, rfl, HR2, HO2, HBz, HK2⟩
  case round =>
    clear HR2 HO2 HBz HK2
    obtain ⟨j, hj, rfl, HR, HO, HB, HK⟩ := hrel
    by_cases hlt : j < 15
    · obtain ⟨y, hy⟩ : ∃ y, raw bs j = y := ⟨_, rfl⟩
      have hsucc := rreadK_succ bs j
      rw [hy] at hsucc
      have HS := hide hsucc
      clear hsucc
      go_wp2_with fail
      refine (rnum_any p g _ _ 4 y _ HR.out (rk_succ bs j) ((raw_eq bs j).trans hy)).mono ?_
      rintro e w3 ⟨rfl, hr, hk⟩
      have HR3 := hide hr
      have HK3 := hide (HK.out.trans hk (by simp; exact HP.out))
      have HO3 := hide (own_keep HO.out hk (fun i hi hm => by simp at hi; subst hi; have := own_blk HO.out _ hm; omega))
      have HB3 : Hid (Bz ≤ w3.heap.size) := hide (Nat.le_trans HB.out hk.size)
      clear hr hk hy HR HK HO HB
      by_cases hq : y = 4294967295
      · have hq1 : ((y : Int) == 4294967295) = true := by rw [beq_iff_eq]; exact hq
        have HT : Hid (t4 y = -1) := hide (if_pos hq)
        clear hq
        go_wp2_with (at_builtin; refine wpList_append_vals rfl (.tmp 23) (.tmp 25) 22 rfl Bz 3 (.int .i64 0) 1 8 Try.underlying22 base.int_info rfl (by omega) u5 j ((rreadK bs j).map I) rfl (own_keep HO3.out ((Kept.refl [] w3).alloc _) (by simp)) [] _ 1 1 ([-1].map I) rfl (by simp) (base.vals_one w3 [] _ _ (by simp)) (oneCell_I [-1]) (by simp only [maxLen]; omega) (by omega) (by have := HB3.out; simp; omega) ?_; intro v1 w1 hown1 hk1 hat1)
        have HR4 := hide ((HR3.out.kept (S := []) ((Kept.refl [] w3).alloc (.cells #[.int .i64 (-1)] 3)) (by simp) (by simp)).kept hk1 (fun hm => by have := own_blk HO3.out _ hm; omega) (fun hm => by have := own_blk HO3.out _ hm; omega))
        have HK4 := hide (base.kept_mid HO3.out hwB (HK3.out.alloc (.cells #[.int .i64 (-1)] 3)) hk1)
        have HB4 : Hid (Bz ≤ w1.heap.size) := hide (by have h1 := HB3.out; have h2 := hk1.size; simp at h2; omega)
        have HO4 : Hid (w1.ownsRow Bz 3 1 v1 (j + 1) ((rreadK bs (j + 1)).map I)) := hide (by
          have e : (rreadK bs j).map I ++ [-1].map I = (rreadK bs (j + 1)).map I := by rw [HS.out, HT.out, List.map_append]
          rw [← e]
          exact hown1)
        clear hown1 hk1 hat1 HR3 HK3 HB3 HO3
        go_wp2
        go_roundw
        case rel => exact ⟨j + 1, by omega, by go_num, HR4, HO4, HB4, HK4⟩
        case measure => simp [intOf]; omega
      · have hq1 : ((y : Int) == 4294967295) = false := by rw [beq_eq_false_iff_ne]; exact hq
        have HT : Hid (t4 y = y) := hide (if_neg hq)
        clear hq
        go_wp2_with (at_builtin; refine wpList_append_vals rfl (.tmp 23) (.tmp 25) 22 rfl Bz 3 (.int .i64 0) 1 8 Try.underlying22 base.int_info rfl (by omega) u5 j ((rreadK bs j).map I) rfl (own_keep HO3.out ((Kept.refl [] w3).alloc _) (by simp)) [] _ 1 1 ([y].map I) rfl (by simp) (base.vals_one w3 [] _ _ (by simp)) (oneCell_I [y]) (by simp only [maxLen]; omega) (by omega) (by have := HB3.out; simp; omega) ?_; intro v1 w1 hown1 hk1 hat1)
        have HR4 := hide ((HR3.out.kept (S := []) ((Kept.refl [] w3).alloc (.cells #[.int .i64 y] 3)) (by simp) (by simp)).kept hk1 (fun hm => by have := own_blk HO3.out _ hm; omega) (fun hm => by have := own_blk HO3.out _ hm; omega))
        have HK4 := hide (base.kept_mid HO3.out hwB (HK3.out.alloc (.cells #[.int .i64 y] 3)) hk1)
        have HB4 : Hid (Bz ≤ w1.heap.size) := hide (by have h1 := HB3.out; have h2 := hk1.size; simp at h2; omega)
        have HO4 : Hid (w1.ownsRow Bz 3 1 v1 (j + 1) ((rreadK bs (j + 1)).map I)) := hide (by
          have e : (rreadK bs j).map I ++ [y].map I = (rreadK bs (j + 1)).map I := by rw [HS.out, HT.out, List.map_append]
          rw [← e]
          exact hown1)
        clear hown1 hk1 hat1 HR3 HK3 HB3 HO3
        go_wp2
        go_roundw
        case rel => exact ⟨j + 1, by omega, by go_num, HR4, HO4, HB4, HK4⟩
        case measure => simp [intOf]; omega
    · have h15 : j = 15 := by omega
      obtain ⟨u, hu⟩ : ∃ u, rreadOf bs = u := ⟨_, rfl⟩
      have hul : u.length = 15 := by rw [← hu]; exact rreadOf_len bs
      have ho := HO.out
      rw [h15, show rreadK bs 15 = u from hu] at ho
      obtain ⟨A1, c1, hv1, hnc1, hV1⟩ := own_read ho
      have HV1 := hide (hV1 [] (by simp))
      have HUL := hide hul
      have HD : Hid (decode bs = if may u = true ∧ bytes u = bs then (u, 0) else ([], 2)) := hide (by rw [rdecode, hu])
      have HV3 := hide (HV.out.kept HK.out (by simp))
      clear ho hV1 hu hul hnc1 HR HO HB
      rw [hv1]
      clear hv1
      go_wp2_with fail
      refine (rbytes_any A1 15 c1 u _ HV1.out HUL.out).mono ?_
      rintro e w5 ⟨A2, n2, c2, rfl, hn2, hnb, hk⟩
      have HK5 := hide (HK.out.trans hk (by simp))
      have HV5 := hide (HV3.out.kept hk (by simp))
      have HU5 := hide (HV1.out.kept hk (by simp))
      have HN5 := hide hnb
      clear hk hnb HK HV3 HV1
      have hd := HD.out
      by_cases hm : may u = true
      · have e1 : encode u = (bytes u, 0) := if_pos hm
        rw [e1] at HN5 hn2 ⊢
        have HN := hide hn2
        have hn64 : n2 ≤ 64 := by rw [hn2]; exact Nat.le_of_eq (bytes_len u (Nat.le_of_eq HUL.out))
        by_cases hq : bytes u = bs
        · rw [if_pos ⟨hm, hq⟩] at hd
          have HDD := hide hd
          clear hd e1 hn2 HD
          go_wp2_with fail
          refine (requal_any A2 A n2 64 c2 c (bytes u) bs _ HN.out.symm HL.out HN5.out HV5.out (by omega)).mono ?_
          rintro e w6 ⟨rfl, hk⟩
          rw [decide_eq_true hq]
          have HK6 := hide (HK5.out.trans hk (by simp))
          have HU6 := hide (HU5.out.kept hk (by simp))
          clear hk
          go_wp2
          go_ret2
          exact ⟨A1, 15, c1, by rw [HDD.out]; rfl, by rw [HDD.out]; exact HUL.out, by rw [HDD.out]; exact HU6.out, HK6.out⟩
        · rw [if_neg (fun h => hq h.2)] at hd
          have HDD := hide hd
          clear hd e1 hn2 HD
          go_wp2_with fail
          refine (requal_any A2 A n2 64 c2 c (bytes u) bs _ HN.out.symm HL.out HN5.out HV5.out (by omega)).mono ?_
          rintro e w6 ⟨rfl, hk⟩
          rw [decide_eq_false hq]
          have HK6 := hide (HK5.out.trans hk (by simp))
          clear hk
          go_wp2
          go_ret2
          exact ⟨none, 0, 0, by rw [HDD.out]; rfl, by rw [HDD.out]; rfl, by rw [HDD.out]; exact Vals.nil _ _ _, HK6.out⟩
      · have e1 : encode u = ([], 1) := if_neg hm
        rw [e1] at HN5 hn2 ⊢
        rw [if_neg (fun h => hm h.1)] at hd
        have HDD := hide hd
        clear hd e1 hn2 HD
        go_wp2
        go_ret2
        exact ⟨none, 0, 0, by rw [HDD.out]; rfl, by rw [HDD.out]; rfl, by rw [HDD.out]; exact Vals.nil _ _ _, HK5.out⟩

theorem rof_any (A : Option Addr) (n c : Nat) (bs : List UInt8) (w : World) (hv : Vals w [] A (bs.map B)) (hl : bs.length = n) (hc : n ≤ c) :
    Calls Try.prog 10 #[.slice A n c] w fun e w' => ∃ A' n' c', e = .returned (.tuple #[.slice A' n' c', .int .i64 (decode bs).2]) ∧ (decode bs).1.length = n' ∧ Vals w' [] A' ((decode bs).1.map I) ∧ Kept [] w w' := by
  by_cases h : n = 64
  · subst h
    exact rof_in A c bs w hv hl hc
  · exact rof_long A n c bs w hl h
end Go.Proofs.Ythjhegjbpfbbdaa.pg
