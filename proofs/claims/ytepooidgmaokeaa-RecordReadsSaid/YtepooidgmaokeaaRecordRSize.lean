/- The reference's RecordSize. -/
import Derived.Test.YtepooidgmaokeaaRecordSize
import Derived.Test.YtepooidgmaokeaaRefClosed
import Derived.Test.YtepooidgmaokeaaAlike
namespace Go.Proofs.Ytepooidgmaokeaa.record
open Go.RowKit Go.Proofs.Ytepooidgmaokeaa.mem Go.Proofs.Ytepooidgmaokeaa.base Go.Proofs.Ytepooidgmaokeaa.row Go.Proofs.Ytepooidgmaokeaa.rowBack Go.Proofs.Ytepooidgmaokeaa.fill Go.Proofs.Ytepooidgmaokeaa.crc Go.Proofs.Ytepooidgmaokeaa.crcMath Go.Proofs.Ytepooidgmaokeaa.super Go.Proofs.Ytepooidgmaokeaa.item Go.Proofs.Ytepooidgmaokeaa.ref

theorem numAt_one (bs : List UInt8) (p : Nat) (x : UInt8) (h : bs[p]? = some x) : numAt bs p 1 = (x.toNat : Int) := by
  have hp := (List.getElem?_eq_some_iff.1 h).1
  have e := (List.getElem?_eq_some_iff.1 h).2
  unfold numAt
  rw [List.drop_eq_getElem_cons hp, e, List.take_succ_cons, List.take_zero]
  simp [numOf]
theorem startB_iff (bs : List UInt8) : startB bs 64 75 82 = true ↔ bs.length = 64 ∧ bs.take 2 = [75, 82] := by
  unfold startB
  rw [Bool.and_eq_true, decide_eq_true_iff, Bool.and_eq_true, beq_iff_eq, beq_iff_eq]
  constructor
  · rintro ⟨h, h2⟩
    exact ⟨h, (start_iff bs h).2 h2⟩
  · rintro ⟨h, h2⟩
    exact ⟨h, (start_iff bs h).1 h2⟩

set_option maxRecDepth 100000 in
set_option maxHeartbeats 1000000 in
theorem rsize_any (A : Option Addr) (n c : Nat) (bs : List UInt8) (w : World) (hv : Vals w [] A (bs.map B)) (hl : bs.length = n) :
    Calls Try.prog 20 #[.slice A n c] w fun e w' => e = .returned (.int .i64 (sizeOf bs)) ∧ w = w' := by
  have hst := rstarts_any A n c 64 75 82 bs w hv hl (by omega)
  unfold B at hst
  by_cases hs : startB bs 64 75 82 = true
  · have h2 := (startB_iff bs).1 hs
    obtain rfl : n = 64 := by rw [← hl]; exact h2.1
    rw [hs] at hst
    have HE := hide (size_in bs h2.1 h2.2)
    obtain ⟨x, hx⟩ : ∃ x, bs[14]? = some x := ⟨_, List.getElem?_eq_getElem (by omega)⟩
    obtain ⟨y, hy⟩ : ∃ y, bs[15]? = some y := ⟨_, List.getElem?_eq_getElem (by omega)⟩
    obtain ⟨ad, rfl, _, c0⟩ := hv 14 (B x) (by rw [List.getElem?_map, hx]; rfl)
    obtain ⟨ad2, had, _, c1⟩ := hv 15 (B y) (by rw [List.getElem?_map, hy]; rfl)
    cases had
    unfold B at c0 c1
    rw [add_pos ad 14 (by omega)] at c0
    rw [add_pos ad 15 (by omega)] at c1
    have hq := numAt_one bs 14 x hx
    have hk := numAt_one bs 15 y hy
    have hx2 := x.toNat_lt
    have hy2 := y.toNat_lt
    obtain ⟨q, hq1⟩ : ∃ q : Nat, x.toNat = q := ⟨_, rfl⟩
    obtain ⟨k, hk1⟩ : ∃ k : Nat, y.toNat = k := ⟨_, rfl⟩
    rw [hq1] at c0 hq hx2
    rw [hk1] at c1 hk hy2
    have hq2 : nOf bs = q := by unfold nOf; rw [hq]; exact Int.toNat_natCast _
    have hk2 : kOf bs = k := by unfold kOf; rw [hk]; exact Int.toNat_natCast _
    rw [hq2, hk2] at HE
    have HST := hide hst
    clear hst hs h2 hx hy hq hk hq1 hk1 hq2 hk2 hv hl
    by_cases h16 : 1 ≤ q ∧ q ≤ 6
    · have HB := hide (show (1 : Int) ≤ q ∧ (q : Int) ≤ 6 by omega)
      by_cases hkq : k ≤ q
      · have HE2 : Hid (sizeOf bs = 1 + k) := hide (by rw [HE.out, if_pos ⟨h16, hkq⟩])
        have hz : decide (q < k) = false := decide_eq_false (by omega)
        clear h16 hkq
        go_enter Try.func20, Try.ntmps20
        go_wp2_with fail
        refine HST.out.mono ?_
        rintro e w1 ⟨rfl, rfl⟩
        go_wp2_with fail
        refine (base.within_yes q 1 6 _ HB.out).mono ?_
        rintro e w1 ⟨rfl, rfl⟩
        go_wp2
        go_ret
        exact ⟨by rw [HE2.out]; rfl, rfl⟩
      · have HE2 : Hid (sizeOf bs = 0) := hide (by rw [HE.out, if_neg (fun hn => hkq hn.2)])
        have hz : decide (q < k) = true := decide_eq_true (by omega)
        clear h16 hkq
        go_enter Try.func20, Try.ntmps20
        go_wp2_with fail
        refine HST.out.mono ?_
        rintro e w1 ⟨rfl, rfl⟩
        go_wp2_with fail
        refine (base.within_yes q 1 6 _ HB.out).mono ?_
        rintro e w1 ⟨rfl, rfl⟩
        go_wp2
        go_ret
        exact ⟨by rw [HE2.out]; rfl, rfl⟩
    · have HE2 : Hid (sizeOf bs = 0) := hide (by rw [HE.out, if_neg (fun hn => h16 hn.1)])
      have HB := hide (show ¬ ((1 : Int) ≤ q ∧ (q : Int) ≤ 6) by omega)
      clear h16
      go_enter Try.func20, Try.ntmps20
      go_wp2_with fail
      refine HST.out.mono ?_
      rintro e w1 ⟨rfl, rfl⟩
      go_wp2_with fail
      refine (base.within_no q 1 6 _ HB.out).mono ?_
      rintro e w1 ⟨rfl, rfl⟩
      go_wp2
      go_ret
      exact ⟨by rw [HE2.out]; rfl, rfl⟩
  · have HE : Hid (sizeOf bs = 0) := hide (if_neg (fun hn => hs ((startB_iff bs).2 ⟨hn.1, (start_iff bs hn.1).2 hn.2.1⟩)))
    rw [(Bool.not_eq_true _).mp hs] at hst
    have HST := hide hst
    clear hst hs hv hl
    go_enter Try.func20, Try.ntmps20
    go_wp2_with fail
    refine HST.out.mono ?_
    rintro e w1 ⟨rfl, rfl⟩
    go_wp2
    go_ret
    exact ⟨by rw [HE.out]; rfl, rfl⟩
end Go.Proofs.Ytepooidgmaokeaa.record
