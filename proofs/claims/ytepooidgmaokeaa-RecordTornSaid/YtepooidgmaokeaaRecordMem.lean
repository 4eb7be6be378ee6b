/- Records in memory; package record: within, mayItems, loaded, allWhole. -/
import Derived.Test.YtepooidgmaokeaaRecordMath
import Derived.Test.YtepooidgmaokeaaItemCore
import Derived.Test.YtepooidgmaokeaaCrcCore
namespace Go.Proofs.Ytepooidgmaokeaa.record
open Go.RowKit Go.Proofs.Ytepooidgmaokeaa.mem Go.Proofs.Ytepooidgmaokeaa.base Go.Proofs.Ytepooidgmaokeaa.row Go.Proofs.Ytepooidgmaokeaa.rowBack Go.Proofs.Ytepooidgmaokeaa.fill Go.Proofs.Ytepooidgmaokeaa.crc Go.Proofs.Ytepooidgmaokeaa.crcMath Go.Proofs.Ytepooidgmaokeaa.super Go.Proofs.Ytepooidgmaokeaa.item

/-- The items and the blocks that two slices read. -/
structure RcAt (w : World) (L : Option Addr) (n : Nat) (A : Option Addr) (k : Nat) (R : Rc) : Prop where
  hn : R.its.length = n
  hk : R.bks.length = k
  its : Items w [] L R.its
  bks : Parts w A R.bks
theorem RcAt.kept {w w' : World} {L : Option Addr} {n : Nat} {A : Option Addr} {k : Nat} {R : Rc} (h : RcAt w L n A k R) (K : Kept [] w w') : RcAt w' L n A k R :=
  ⟨h.hn, h.hk, h.its.kept K (by simp), h.bks.kept K⟩

/-- The same, nothing of it in blocks of S. -/
structure RcIn (w : World) (S : List Nat) (L : Option Addr) (n : Nat) (A : Option Addr) (k : Nat) (R : Rc) : Prop where
  hn : R.its.length = n
  hk : R.bks.length = k
  its : Items w S L R.its
  bks : ∃ vs, PartsIn w S vs R.bks ∧ Vals w S A vs
theorem RcIn.kept {w w' : World} {S S' : List Nat} {L : Option Addr} {n : Nat} {A : Option Addr} {k : Nat} {R : Rc} (h : RcIn w S L n A k R) (K : Kept S' w w') (hs : ∀ i ∈ S', i ∈ S) : RcIn w' S L n A k R :=
  ⟨h.hn, h.hk, h.its.kept K hs, by
    obtain ⟨vs, h1, h2⟩ := h.bks
    exact ⟨vs, h1.kept K hs, h2.kept K hs⟩⟩
theorem RcIn.at_ {w : World} {S : List Nat} {L : Option Addr} {n : Nat} {A : Option Addr} {k : Nat} {R : Rc} (h : RcIn w S L n A k R) : RcAt w L n A k R :=
  ⟨h.hn, h.hk, Vals.mono h.its (by simp), by
    obtain ⟨vs, h1, h2⟩ := h.bks
    exact h1.of.parts (h2.mono (by simp))⟩
theorem RcAt.zero (w : World) (L A : Option Addr) : RcAt w L 0 A 0 Rc.zero := ⟨rfl, rfl, Items.nil _ _ _, Parts.nil _ _⟩

theorem between (n a b : Int) (w : World) :
    Calls Try.prog 41 #[.int .i64 n, .int .i64 a, .int .i64 b] w fun e w' => e = .returned (.bool (decide (a ≤ n) && decide (n ≤ b))) ∧ w = w' := by
  by_cases h : a ≤ n
  · go_enter Try.func41, Try.ntmps41
    go_wp2
    go_ret
    exact ⟨by simp [h], rfl⟩
  · go_enter Try.func41, Try.ntmps41
    go_wp2
    go_ret
    exact ⟨by rw [show decide (a ≤ n) = false from decide_eq_false (by omega)]; rfl, rfl⟩
theorem between_yes (n a b : Int) (w : World) (h : a ≤ n ∧ n ≤ b) :
    Calls Try.prog 41 #[.int .i64 n, .int .i64 a, .int .i64 b] w fun e w' => e = .returned (.bool true) ∧ w = w' :=
  (between n a b w).mono fun e w' ⟨he, hw⟩ => ⟨by rw [he]; simp [h.1, h.2], hw⟩
theorem between_no (n a b : Int) (w : World) (h : ¬ (a ≤ n ∧ n ≤ b)) :
    Calls Try.prog 41 #[.int .i64 n, .int .i64 a, .int .i64 b] w fun e w' => e = .returned (.bool false) ∧ w = w' :=
  (between n a b w).mono fun e w' ⟨he, hw⟩ => ⟨by rw [he]; congr 2; rw [← Bool.not_eq_true, Bool.and_eq_true, decide_eq_true_iff, decide_eq_true_iff]; omega, hw⟩

/-- mayItems' answer. -/
def mayIts (l : List It) : Bool := decide (1 ≤ l.length ∧ l.length ≤ 6) && decide (allMay l)
set_option maxRecDepth 100000 in
set_option maxHeartbeats 1000000 in
theorem mayItems_any (L : Option Addr) (n c : Nat) (l : List It) (w : World) (hv : Items w [] L l) (hl : l.length = n) :
    Calls Try.prog 42 #[.slice L n c] w fun e w' => e = .returned (.bool (mayIts l)) ∧ Kept [] w w' := by
  have HV := hide hv
  have HL := hide hl
  clear hv hl
  by_cases h : 1 ≤ n ∧ n ≤ 6
  · have HH := hide h
    have hn1 := h.1
    have hn6 := h.2
    clear h
    go_enter Try.func42, Try.ntmps42
    go_wp2_with fail
    refine (between_yes n 1 6 _ (by omega)).mono ?_
    rintro e w1 ⟨rfl, rfl⟩
    go_wp2
    go_loopw [11] (fun i wr => ∃ k : Nat, k ≤ n ∧ i = .int .i64 k ∧ Hid (allMay (l.take k)) ∧ Hid (Kept [] w wr)) (fun i wr => n - (intOf i).toNat)
    case atStart => exact ⟨0, by omega, rfl, hide (by simp [allMay]), hide (Kept.refl _ _)⟩
    case round =>
      obtain ⟨k, hk, rfl, HM1, HK1⟩ := hrel
      by_cases hlt : k < n
      · obtain ⟨i, hi⟩ : ∃ i, l[k]? = some i := ⟨_, List.getElem?_eq_getElem (by rw [HL.out]; exact hlt)⟩
        obtain ⟨ad, rfl, _, c0, c1, c2, c3⟩ := (HV.out.kept HK1.out (by simp)).at_ hi
        have HI := hide hi
        clear hi
        have hk0 := (Kept.refl [] wr).alloc (.cells i.cells 52)
        go_wp2_with fail
        refine (may_any i _).mono ?_
        rintro e w2 ⟨rfl, hk⟩
        have HK2 := hide (HK1.out.trans (hk0.trans hk (by simp)) (by simp))
        clear hk hk0 c0 c1 c2 c3
        by_cases hm : i.may = true
        · rw [hm]
          have hM := hide (allMay_snoc _ i HM1.out hm)
          clear hm
          go_wp2
          go_roundw
          case rel => exact ⟨k + 1, by omega, by go_num, hide (by rw [List.take_add_one, HI.out]; exact hM.out), HK2⟩
          case measure => simp [intOf]; omega
        · have hm' := (Bool.not_eq_true _).mp hm
          rw [hm']
          have HE : Hid (mayIts l = false) := hide (by
            unfold mayIts
            rw [decide_eq_false (fun h : allMay l => hm (h i (List.mem_of_getElem? HI.out))), Bool.and_false])
          clear hm hm'
          go_wp2
          go_ret
          exact ⟨by rw [HE.out]; rfl, HK2.out⟩
      · obtain rfl : k = n := by omega
        have HE : Hid (mayIts l = true) := hide (by
          have := HM1.out
          rw [List.take_of_length_le (by rw [HL.out]; exact Nat.le_refl _)] at this
          unfold mayIts
          rw [HL.out, decide_eq_true HH.out, decide_eq_true this, Bool.and_true])
        go_wp2
        go_ret
        exact ⟨by rw [HE.out]; rfl, HK1.out⟩
  · have HE : Hid (mayIts l = false) := hide (by
      unfold mayIts
      rw [HL.out, decide_eq_false h, Bool.false_and])
    have hh : ¬ ((1 : Int) ≤ n ∧ (n : Int) ≤ 6) := by omega
    clear h
    have HH := hide hh
    clear hh
    go_enter Try.func42, Try.ntmps42
    go_wp2_with fail
    refine (between_no n 1 6 _ HH.out).mono ?_
    rintro e w1 ⟨rfl, rfl⟩
    go_wp2
    go_ret
    exact ⟨by rw [HE.out]; rfl, Kept.refl _ _⟩

theorem count_take (l : List It) (k : Nat) (i : It) (h : l[k]? = some i) : count (l.take (k + 1)) = count (l.take k) + (if i.loaded = true then 1 else 0) := by
  rw [List.take_add_one, h]
  exact count_snoc _ _
theorem count_some (l : List It) (k : Nat) (i : It) (c : Nat) (h : l[k]? = some i) (hc : count (l.take k) = c) (hl : i.loaded = true) : count (l.take (k + 1)) = c + 1 := by
  rw [count_take l k i h, hc, if_pos hl]
theorem count_none (l : List It) (k : Nat) (i : It) (c : Nat) (h : l[k]? = some i) (hc : count (l.take k) = c) (hl : i.loaded = false) : count (l.take (k + 1)) = c := by
  rw [count_take l k i h, hc, if_neg (by rw [hl]; simp), Nat.add_zero]

set_option maxRecDepth 100000 in
set_option maxHeartbeats 1000000 in
theorem loaded_all (L : Option Addr) (n c : Nat) (l : List It) (w : World) (hv : Items w [] L l) (hl : l.length = n) (hn : n ≤ 1000) :
    Calls Try.prog 43 #[.slice L n c] w fun e w' => e = .returned (.int .i64 (count l)) ∧ Kept [] w w' := by
  have HV := hide hv
  have HL := hide hl
  clear hv hl
  go_enter Try.func43, Try.ntmps43
  go_wp2
  go_loopw [8, 3] (fun i x wr => ∃ k c : Nat, k ≤ n ∧ c ≤ k ∧ i = .int .i64 k ∧ x = .int .i64 c ∧ Hid (count (l.take k) = c) ∧ Hid (Kept [] w wr)) (fun i x wr => n - (intOf i).toNat)
  case atStart => exact ⟨0, 0, by omega, by omega, rfl, rfl, hide rfl, hide (Kept.refl _ _)⟩
  case round =>
    obtain ⟨k, q, hk, hq, rfl, rfl, HC1, HK1⟩ := hrel
    by_cases hlt : k < n
    · obtain ⟨i, hi⟩ : ∃ i, l[k]? = some i := ⟨_, List.getElem?_eq_getElem (by rw [HL.out]; exact hlt)⟩
      obtain ⟨ad, rfl, _, c0, c1, c2, c3⟩ := (HV.out.kept HK1.out (by simp)).at_ hi
      have HI := hide hi
      clear hi
      have hk0 := (Kept.refl [] wr).alloc (.cells i.cells 52)
      go_wp2_with fail
      refine (loaded_any i _).mono ?_
      rintro e w2 ⟨rfl, hk⟩
      have HK2 := hide (HK1.out.trans (hk0.trans hk (by simp)) (by simp))
      clear hk hk0 c0 c1 c2 c3
      by_cases hm : i.loaded = true
      · rw [hm]
        have HC2 := hide (count_some l k i q HI.out HC1.out hm)
        clear hm
        go_wp2
        go_roundw
        case rel => exact ⟨k + 1, q + 1, by omega, by omega, by go_num, by go_num, HC2, HK2⟩
        case measure => simp [intOf]; omega
      · have hm' := (Bool.not_eq_true _).mp hm
        rw [hm']
        have HC2 := hide (count_none l k i q HI.out HC1.out hm')
        clear hm hm'
        go_wp2
        go_roundw
        case rel => exact ⟨k + 1, q, by omega, by omega, by go_num, rfl, HC2, HK2⟩
        case measure => simp [intOf]; omega
    · obtain rfl : k = n := by omega
      have HE : Hid (count l = q) := hide (by
        have := HC1.out
        rwa [List.take_of_length_le (by rw [HL.out]; exact Nat.le_refl _)] at this)
      go_wp2
      go_ret
      exact ⟨by rw [HE.out]; rfl, HK1.out⟩

theorem all64_snoc (l : List (List UInt8)) (k : Nat) (b : List UInt8) (h : all64 (l.take k)) (hb : l[k]? = some b) (h64 : b.length = 64) : all64 (l.take (k + 1)) := by
  rw [List.take_add_one, hb]
  intro x hx
  rcases List.mem_append.1 hx with hx | hx
  · exact h x hx
  · simp only [Option.toList_some, List.mem_cons, List.not_mem_nil, or_false] at hx
    rw [hx]
    exact h64

set_option maxRecDepth 100000 in
set_option maxHeartbeats 1000000 in
theorem allWhole_any (A : Option Addr) (k c : Nat) (l : List (List UInt8)) (w : World) (hv : Parts w A l) (hl : l.length = k) (hk : k ≤ 1000) :
    Calls Try.prog 44 #[.slice A k c] w fun e w' => e = .returned (.bool (decide (all64 l))) ∧ w = w' := by
  have HV := hide hv
  have HL := hide hl
  clear hv hl
  go_enter Try.func44, Try.ntmps44
  go_wp2
  go_loop [7] (fun i => ∃ j : Nat, j ≤ k ∧ i = .int .i64 j ∧ Hid (all64 (l.take j))) (fun i => k - (intOf i).toNat)
  case atStart => exact ⟨0, by omega, rfl, hide (by intro b hb; simp at hb)⟩
  case round =>
    obtain ⟨j, hj, rfl, HM⟩ := hrel
    by_cases hlt : j < k
    · obtain ⟨b, hb⟩ : ∃ b, l[j]? = some b := ⟨_, List.getElem?_eq_getElem (by rw [HL.out]; exact hlt)⟩
      obtain ⟨ad, Ai, ci, rfl, hc, hm, _⟩ := HV.out.at_ j _ hb
      have HB := hide hb
      clear hb
      by_cases h64 : b.length = 64
      · have HM2 := hide (all64_snoc l j b HM.out HB.out h64)
        rw [h64] at hc
        clear h64 hm
        go_wp2
        go_round
        case rel => exact ⟨j + 1, by omega, by go_num, HM2⟩
        case measure => simp [intOf]; omega
      · have HE : Hid (decide (all64 l) = false) := hide (decide_eq_false (fun h => h64 (h b (List.mem_of_getElem? HB.out))))
        have hne : ((b.length : Int) != 64) = true := by rw [bne_iff_ne]; omega
        clear h64
        go_wp2
        go_ret
        exact ⟨by rw [HE.out]; rfl, rfl⟩
    · obtain rfl : j = k := by omega
      have HE : Hid (decide (all64 l) = true) := hide (decide_eq_true (by
        have := HM.out
        rwa [List.take_of_length_le (by rw [HL.out]; exact Nat.le_refl _)] at this))
      go_wp2
      go_ret
      exact ⟨by rw [HE.out]; rfl, rfl⟩
end Go.Proofs.Ytepooidgmaokeaa.record
