/-
  The given statement RecordTellsSaid is proved: whatever the arguments are, the law returns true and leaves its input as it was. No conditions.
-/
import Derived.Test.YtepooidgmaokeaaRecordAwake
import Derived.Test.YtepooidgmaokeaaRecordRBytes
import Derived.Test.YtepooidgmaokeaaRecordIn
import Derived.Test.YtepooidgmaokeaaHeld
import Derived.WalkKit
import Derived.ProofKit
import Derived.OpenShut
import Derived.ShutString
import Derived.ChangeOld
import Derived.Below
namespace Go.Proofs.Ytepooidgmaokeaa.recordTells
open Go.ChangeShapes Go.WideShapes Go.ChangeAt Go.RowKit
open Go.ChangeMaps (open_string shut_string)
open Go.Proofs.Ytepooidgmaokeaa.mem Go.Proofs.Ytepooidgmaokeaa.base Go.Proofs.Ytepooidgmaokeaa.row Go.Proofs.Ytepooidgmaokeaa.crc Go.Proofs.Ytepooidgmaokeaa.item Go.Proofs.Ytepooidgmaokeaa.record
set_option linter.unusedVariables false

theorem own : ownKnob Try.prog.godebug = none := by kernel_rfl
theorem laidOut : laidOutB Try.prog = true := by kernel_rfl

theorem agg_cells {P : Program} {w : World} {r : Reach} {base : Nat} {t : TypeId} {v : Value} (hu : ((match P.underlying t with | some (.struct _) | some (.array _ _) => true | _ => false) : Bool) = true) (h : Value.okWide P w r base t v) : ∃ cs, v = .agg cs ∧ cs.size = P.cellsOf t := by
  have h' : ∃ cs : Array Value, v = .agg cs ∧ cs.size = P.cellsOf t ∧ Row.okWide P w r base t cs := by
    unfold Value.okWide at h
    revert hu h
    cases P.underlying t with
    | none => simp
    | some u => cases u <;> simp
  obtain ⟨cs, h1, h2, _⟩ := h'
  exact ⟨cs, h1, h2⟩

def fewB (n k : Nat) (bss : List (List UInt8)) : Bool := decide (n ≤ 20 ∧ k ≤ 20) && decide (∀ b ∈ bss, b.length ≤ 100)
theorem small_snoc (l : List (List UInt8)) (j : Nat) (b : List UInt8) (h : ∀ b ∈ l.take j, b.length ≤ 100) (hb : l[j]? = some b) (h1 : b.length ≤ 100) : ∀ b ∈ l.take (j + 1), b.length ≤ 100 := by
  rw [List.take_add_one, hb]
  intro x hx
  rcases List.mem_append.1 hx with hx | hx
  · exact h x hx
  · simp only [Option.toList_some, List.mem_cons, List.not_mem_nil, or_false] at hx
    rw [hx]
    exact h1

set_option maxRecDepth 100000 in
set_option maxHeartbeats 1000000 in
theorem few_any (R : Rc) (L A : Option Addr) (n c k d : Nat) (w : World) (hk : R.bks.length = k) (hb : PartsAny w A R.bks) :
    Calls Try.prog 8 #[.agg #[.int .i64 R.m, .int .i64 R.l, .int .i64 R.p, .slice L n c, .slice A k d]] w fun e w' => e = .returned (.bool (fewB n k R.bks)) ∧ Kept [] w w' := by
  have hk1 := (Kept.refl [] w).alloc (.cells #[.int .i64 R.m, .int .i64 R.l, .int .i64 R.p, .slice L n c, .slice A k d] 25)
  have hb1 := Blk.new w 25 #[.int .i64 R.m, .int .i64 R.l, .int .i64 R.p, .slice L n c, .slice A k d]
  have HKN := hide hk
  by_cases h1 : n ≤ 20
  · by_cases h2 : k ≤ 20
    · obtain ⟨w1, hw1⟩ : ∃ w1, w.alloc (.cells #[.int .i64 R.m, .int .i64 R.l, .int .i64 R.p, .slice L n c, .slice A k d] 25) = w1 := ⟨_, rfl⟩
      obtain ⟨g, hg⟩ : ∃ g, w.heap.size = g := ⟨_, rfl⟩
      have HFB : Hid (fewB n k R.bks = decide (∀ b ∈ R.bks, b.length ≤ 100)) := hide (by unfold fewB; rw [decide_eq_true ⟨h1, h2⟩, Bool.true_and])
      rw [hw1, hg] at hb1
      rw [hw1] at hk1
      have HP := hide (hb.kept hk1)
      have HK1 := hide hk1
      have f3 := hb1.cell 3
      have f4 := hb1.cell 4
      clear hk1 hb1 hk hb
      go_enter Try.func8, Try.ntmps8
      go_wp2
      go_loop [3] (fun i => ∃ j : Nat, j ≤ k ∧ i = .int .i64 j ∧ Hid (∀ b ∈ R.bks.take j, b.length ≤ 100)) (fun i => k - (intOf i).toNat)
      case atStart => exact ⟨0, by omega, rfl, hide (by simp)⟩
      case round =>
        obtain ⟨j, hj, rfl, HM⟩ := hrel
        by_cases hlt : j < k
        · obtain ⟨b, hb⟩ : ∃ b, R.bks[j]? = some b := ⟨_, List.getElem?_eq_getElem (by rw [HKN.out]; exact hlt)⟩
          obtain ⟨ad, Ai, ci, rfl, hc, _⟩ := HP.out.at_ j _ hb
          have HB := hide hb
          clear hb
          by_cases h64 : b.length ≤ 100
          · have HM2 := hide (small_snoc R.bks j b HM.out HB.out h64)
            obtain ⟨l, hl⟩ : ∃ l, b.length = l := ⟨_, rfl⟩
            rw [hl] at hc h64
            clear hl
            go_wp2
            go_round
            case rel => exact ⟨j + 1, by omega, by go_num, HM2⟩
            case measure => simp [intOf]; omega
          · have HE : Hid (decide (∀ b ∈ R.bks, b.length ≤ 100) = false) := hide (decide_eq_false (fun h => h64 (h b (List.mem_of_getElem? HB.out))))
            obtain ⟨l, hl⟩ : ∃ l, b.length = l := ⟨_, rfl⟩
            rw [hl] at hc h64
            have hgt : (100 : Int) < l := by omega
            clear hl h64
            go_wp2
            go_ret
            exact ⟨by rw [HFB.out, HE.out]; rfl, HK1.out⟩
        · obtain rfl : j = k := by omega
          have HE : Hid (decide (∀ b ∈ R.bks, b.length ≤ 100) = true) := hide (decide_eq_true (by
            have := HM.out
            rwa [List.take_of_length_le (by rw [HKN.out]; exact Nat.le_refl _)] at this))
          go_wp2
          go_ret
          exact ⟨by rw [HFB.out, HE.out]; rfl, HK1.out⟩
    · have HE : Hid (fewB n k R.bks = false) := hide (by unfold fewB; rw [decide_eq_false (fun h => h2 h.2), Bool.false_and])
      have hgt : (20 : Int) < k := by omega
      have HK1 := hide hk1
      clear h2 hb1 hk1
      go_enter Try.func8, Try.ntmps8
      go_wp2
      go_ret
      exact ⟨by rw [HE.out]; rfl, HK1.out⟩
  · have HE : Hid (fewB n k R.bks = false) := hide (by unfold fewB; rw [decide_eq_false (fun h => h1 h.1), Bool.false_and])
    have hgt : (20 : Int) < n := by omega
    have HK1 := hide hk1
    clear h1 hb1 hk1
    go_enter Try.func8, Try.ntmps8
    go_wp2
    go_ret
    exact ⟨by rw [HE.out]; rfl, HK1.out⟩

set_option maxRecDepth 100000 in
theorem walk_big (R : Rc) (L A : Option Addr) (n c k d : Nat) (w : World) (hk : R.bks.length = k) (hb : PartsAny w A R.bks) (hf : fewB n k R.bks = false) :
    Calls Try.prog 3 #[.agg #[.int .i64 R.m, .int .i64 R.l, .int .i64 R.p, .slice L n c, .slice A k d]] w fun e w' => e = .returned (.bool true) ∧ Below w.heap.size w w' := by
  have hk1 := (Kept.refl [] w).alloc (.cells #[.int .i64 R.m, .int .i64 R.l, .int .i64 R.p, .slice L n c, .slice A k d] 25)
  have HP := hide (hb.kept hk1)
  have HK1 := hide hk1
  have HKN := hide hk
  have HF := hide hf
  clear hk1 hk hb hf
  go_enter Try.func3, Try.ntmps3
  go_wp2_with fail
  refine (few_any R L A n c k d _ HKN.out HP.out).mono ?_
  rintro e w2 ⟨rfl, hk⟩
  rw [HF.out]
  have HK2 := hide (HK1.out.trans hk (by simp))
  clear hk
  go_wp2_with fail
  refine (awake_any _).mono ?_
  rintro e w3 ⟨rfl, hk⟩
  have HK3 := hide (HK2.out.trans hk (by simp))
  clear hk
  go_wp2
  go_ret
  exact ⟨rfl, HK3.out.below (by simp)⟩

theorem encode_len (R : Rc) (k : Nat) (hk : R.bks.length = k) (h : k ≤ 20) : (encode R).1.length ≤ 140737488355328 := by
  unfold record.encode
  split
  · rename_i hm
    show R.bytes.length ≤ _
    rw [Rc.bytes_len (R.may_iff.1 hm)]
    omega
  · exact Nat.zero_le _

set_option maxRecDepth 100000 in
set_option maxHeartbeats 2000000 in
theorem walk_in (R : Rc) (L A : Option Addr) (n c k d : Nat) (w : World) (h : RcAt w L n A k R) (hf : fewB n k R.bks = true) :
    Calls Try.prog 3 #[.agg #[.int .i64 R.m, .int .i64 R.l, .int .i64 R.p, .slice L n c, .slice A k d]] w fun e w' => e = .returned (.bool true) ∧ Below w.heap.size w w' := by
  have hsm : n ≤ 20 ∧ k ≤ 20 := by
    unfold fewB at hf
    rw [Bool.and_eq_true, decide_eq_true_iff] at hf
    exact hf.1
  obtain ⟨hn20, hk20⟩ := hsm
  have HEL := hide (encode_len R k h.hk hk20)
  have hk1 := (Kept.refl [] w).alloc (.cells #[.int .i64 R.m, .int .i64 R.l, .int .i64 R.p, .slice L n c, .slice A k d] 25)
  have hb1 := Blk.new w 25 #[.int .i64 R.m, .int .i64 R.l, .int .i64 R.p, .slice L n c, .slice A k d]
  obtain ⟨g, hg⟩ : ∃ g, w.heap.size = g := ⟨_, rfl⟩
  rw [hg] at hb1
  have HR1 := hide (h.kept hk1)
  have HB1 := hide hb1
  have HK1 := hide hk1
  have HPA : Hid (PartsAny w A R.bks) := hide (by
    obtain ⟨vs, h1, h2, h3⟩ := h.bks
    exact ⟨vs, h1, h2, fun i bs hb => by
      obtain ⟨Ai, ci, h4, _, h5⟩ := h3 i bs hb
      exact ⟨Ai, ci, h4, h5⟩⟩)
  have HKN := hide h.hk
  have HF := hide hf
  clear hk1 hb1 h hf
  go_enter Try.func3, Try.ntmps3
  go_wp2_with fail
  refine (few_any R L A n c k d _ HKN.out (HPA.out.kept HK1.out)).mono ?_
  rintro e w2 ⟨rfl, hk⟩
  rw [HF.out]
  have HR2 := hide (HR1.out.kept hk)
  have HB2 := hide (hk.blk HB1.out (by simp))
  have HK2 := hide (HK1.out.trans hk (by simp))
  obtain ⟨c0, c1, c2, c3, c4⟩ := cell5 HB2.out
  clear hk HR1 HB1 HK1
  go_wp2_with fail
  refine (encode_any R L A n c k d _ HR2.out).mono ?_
  rintro e w3 ⟨P3, n3, p3, rfl, hn3, hnb, hk⟩
  have HV3 := hide (hnb.vals (S := []) (by simp))
  have HN3 := hide hn3
  have HR3 := hide (HR2.out.kept hk)
  have HB3 := hide (hk.blk HB2.out (by simp))
  have HK3 := hide (HK2.out.trans hk (by simp))
  clear hk hn3 hnb HR2 HB2 HK2 c0 c1 c2 c3 c4
  obtain ⟨c0, c1, c2, c3, c4⟩ := cell5 HB3.out
  go_wp2_with fail
  refine (rbytes_any R L A n c k d _ HR3.out).mono ?_
  rintro e w4 ⟨P4, n4, p4, rfl, hn4, hv4, hk⟩
  have HV4 := hide (HV3.out.kept hk (by simp))
  have HX4 := hide hv4
  have HN4 := hide hn4
  have HR4 := hide (HR3.out.kept hk)
  have HB4 := hide (hk.blk HB3.out (by simp))
  have HK4 := hide (HK3.out.trans hk (by simp))
  clear hk hn4 hv4 HR3 HB3 HK3 HV3 c0 c1 c2 c3 c4
  obtain ⟨c0, c1, c2, c3, c4⟩ := cell5 HB4.out
  go_wp2_with fail
  refine (rmay_any' R L A n c k d _ HR4.out).mono ?_
  rintro e w5 ⟨rfl, hk⟩
  have HV5 := hide (HV4.out.kept hk (by simp))
  have HX5 := hide (HX4.out.kept hk (by simp))
  have HR5 := hide (HR4.out.kept hk)
  have HB5 := hide (hk.blk HB4.out (by simp))
  have HK5 := hide (HK4.out.trans hk (by simp))
  clear hk HR4 HB4 HK4 HV4 HX4 c0 c1 c2 c3 c4
  obtain ⟨bs, hbs⟩ : ∃ bs, (encode R).1 = bs := ⟨_, rfl⟩
  obtain ⟨s, hs⟩ : ∃ s, (encode R).2.1 = s := ⟨_, rfl⟩
  obtain ⟨er, her⟩ : ∃ er, (encode R).2.2 = er := ⟨_, rfl⟩
  rw [hbs] at HN3 HN4 HV5 HX5 HEL
  rw [hs, her]
  have HLO : Hid (lenOf R = if R.may = true then 1 + k else 0) := hide (by unfold lenOf; rw [HKN.out])
  obtain ⟨c0, c1, c2, c3, c4⟩ := cell5 HB5.out
  have HST := hide (show Kept [] w5 w5 ∧ w5.cell? ⟨g, 0, none⟩ = some (.int .i64 R.m) ∧ w5.cell? ⟨g, 1, none⟩ = some (.int .i64 R.l) ∧ w5.cell? ⟨g, 2, none⟩ = some (.int .i64 R.p) ∧ w5.cell? ⟨g, 3, none⟩ = some (.slice L n c) ∧ w5.cell? ⟨g, 4, none⟩ = some (.slice A k d) from ⟨Kept.refl _ _, c0, c1, c2, c3, c4⟩)
  have h00 : (er == er) = true := by simp
  have h01 : (s == s) = true := by simp
  clear hbs hs her
  by_cases hm : R.may = true
  · have HLO2 : Hid (lenOf R = 1 + k) := hide (by rw [HLO.out, if_pos hm])
    have HM := hide hm
    rw [hm]
    clear hm
    go_wp2
    -- REGION yes
    refine wp_region_noPanic ?_
    refine wp_region_held_drew (S := fun W => Kept [] w5 W ∧ W.cell? ⟨g, 0, none⟩ = some (.int .i64 R.m) ∧ W.cell? ⟨g, 1, none⟩ = some (.int .i64 R.l) ∧ W.cell? ⟨g, 2, none⟩ = some (.int .i64 R.p) ∧ W.cell? ⟨g, 3, none⟩ = some (.slice L n c) ∧ W.cell? ⟨g, 4, none⟩ = some (.slice A k d)) (by kernel_rfl) (by exact ⟨HST.out.1.drew, HST.out.2⟩) (fun hHeld => ?_)
    refine wpAnyH_take (i := 0) (oi := ⟨some 32, _, _, _, _, _⟩) (v := ?v1) rfl (by kernel_rfl) (by kernel_rfl) (by kernel_rfl) (fun _ _ _ h => h) (Or.inl ⟨by rfl, ?hy1⟩) (by assumption) ?rest1
    case hy1 => (intro W hSw; (try dsimp only at hSw); go_simp; try with_reducible rfl)
    try simp only [Act.put, List.setIfInBounds_toArray, List.set_cons_zero, List.set_cons_succ]
    refine wpAnyH_take (i := 2) (oi := ⟨some 34, _, _, _, _, _⟩) (v := ?v2) rfl (by kernel_rfl) (by kernel_rfl) (by kernel_rfl) (fun _ _ _ h => h) (Or.inl ⟨by rfl, ?hy2⟩) (by assumption) ?rest2
    case hy2 => (intro W hSw; (try dsimp only at hSw); go_simp; try with_reducible rfl)
    try simp only [Act.put, List.setIfInBounds_toArray, List.set_cons_zero, List.set_cons_succ]
    refine held_one (i := 1) (o := ⟨some 33, _, _, _, _, _⟩) rfl (by kernel_rfl) (by rfl) (fun K hK => ?_)
    go_simp
    refine (may_any R L A n c k d _ (HR5.out.kept hHeld.1)).mono ?_
    rintro e w6 ⟨rfl, hk6⟩
    rw [HM.out]
    refine hK.out _ _ (by exact held5 hHeld hk6) (fun hHeld => ?_)
    clear hK K
    try simp only [Act.put, List.setIfInBounds_toArray, List.set_cons_zero, List.set_cons_succ]
    refine held_one (i := 3) (o := ⟨some 35, _, _, _, _, _⟩) rfl (by kernel_rfl) (by rfl) (fun K hK => ?_)
    go_simp
    refine (rmay_any' R L A n c k d _ (HR5.out.kept hHeld.1)).mono ?_
    rintro e w7 ⟨rfl, hk7⟩
    rw [HM.out]
    refine hK.out _ _ (by exact held5 hHeld hk7) (fun hHeld => ?_)
    clear hK K
    try simp only [Act.put, List.setIfInBounds_toArray, List.set_cons_zero, List.set_cons_succ]
    refine wpAnyH_take (i := 4) (oi := ⟨some 36, _, _, _, _, _⟩) (v := ?v3) rfl (by kernel_rfl) (by kernel_rfl) (by kernel_rfl) (fun _ _ _ h => h) (Or.inl ⟨by rfl, ?hy3⟩) (by assumption) ?rest3
    case hy3 => (intro W hSw; (try dsimp only at hSw); go_simp; try with_reducible rfl)
    try simp only [Act.put, List.setIfInBounds_toArray, List.set_cons_zero, List.set_cons_succ]
    refine wpAnyH_take (i := 5) (oi := ⟨some 37, _, _, _, _, _⟩) (v := ?v4) rfl (by kernel_rfl) (by kernel_rfl) (by kernel_rfl) (fun _ _ _ h => h) (Or.inl ⟨by rfl, ?hy4⟩) (by assumption) ?rest4
    case hy4 => (intro W hSw; (try dsimp only at hSw); go_simp; try with_reducible rfl)
    try simp only [Act.put, List.setIfInBounds_toArray, List.set_cons_zero, List.set_cons_succ]
    refine wpAnyH_take (i := 6) (oi := ⟨some 38, _, _, _, _, _⟩) (v := ?v5) rfl (by kernel_rfl) (by kernel_rfl) (by kernel_rfl) (fun _ _ _ h => h) (Or.inl ⟨by rfl, ?hy5⟩) (by assumption) ?rest5
    case hy5 => (intro W hSw; (try dsimp only at hSw); go_simp; try with_reducible rfl)
    try simp only [Act.put, List.setIfInBounds_toArray, List.set_cons_zero, List.set_cons_succ]
    refine wpAnyH_take (i := 8) (oi := ⟨some 40, _, _, _, _, _⟩) (v := ?v6) rfl (by kernel_rfl) (by kernel_rfl) (by kernel_rfl) (fun _ _ _ h => h) (Or.inl ⟨by rfl, ?hy6⟩) (by assumption) ?rest6
    case hy6 => (intro W hSw; (try dsimp only at hSw); go_simp; try with_reducible rfl)
    try simp only [Act.put, List.setIfInBounds_toArray, List.set_cons_zero, List.set_cons_succ]
    refine held_one (i := 7) (o := ⟨some 39, _, _, _, _, _⟩) rfl (by kernel_rfl) (by rfl) (fun K hK => ?_)
    go_simp
    refine (len_any R L A n c k d _ (HR5.out.kept hHeld.1)).mono ?_
    rintro e w8 ⟨rfl, hk8⟩
    rw [HLO2.out]
    refine hK.out _ _ (by exact held5 hHeld hk8) (fun hHeld => ?_)
    clear hK K
    try simp only [Act.put, List.setIfInBounds_toArray, List.set_cons_zero, List.set_cons_succ]
    refine wpAnyH_take (i := 9) (oi := ⟨some 41, _, _, _, _, _⟩) (v := ?v7) rfl (by kernel_rfl) (by kernel_rfl) (by kernel_rfl) (fun _ _ _ h => h) (Or.inl ⟨by rfl, ?hy7⟩) (by assumption) ?rest7
    case hy7 => (intro W hSw; (try dsimp only at hSw); go_simp; try with_reducible rfl)
    try simp only [Act.put, List.setIfInBounds_toArray, List.set_cons_zero, List.set_cons_succ]
    refine wpAnyH_take (i := 10) (oi := ⟨some 42, _, _, _, _, _⟩) (v := ?v8) rfl (by kernel_rfl) (by kernel_rfl) (by kernel_rfl) (fun _ _ _ h => h) (Or.inl ⟨by rfl, ?hy8⟩) (by assumption) ?rest8
    case hy8 => (intro W hSw; (try dsimp only at hSw); go_simp; try with_reducible rfl)
    try simp only [Act.put, List.setIfInBounds_toArray, List.set_cons_zero, List.set_cons_succ]
    refine wpAnyH_take (i := 11) (oi := ⟨some 43, _, _, _, _, _⟩) (v := ?v9) rfl (by kernel_rfl) (by kernel_rfl) (by kernel_rfl) (fun _ _ _ h => h) (Or.inl ⟨by rfl, ?hy9⟩) (by assumption) ?rest9
    case hy9 => (intro W hSw; (try dsimp only at hSw); go_simp; try with_reducible rfl)
    try simp only [Act.put, List.setIfInBounds_toArray, List.set_cons_zero, List.set_cons_succ]
    refine wpAnyH_take (i := 12) (oi := ⟨some 44, _, _, _, _, _⟩) (v := ?v10) rfl (by kernel_rfl) (by kernel_rfl) (by kernel_rfl) (fun _ _ _ h => h) (Or.inl ⟨by rfl, ?hy10⟩) (by assumption) ?rest10
    case hy10 => (intro W hSw; (try dsimp only at hSw); go_simp; try with_reducible rfl)
    try simp only [Act.put, List.setIfInBounds_toArray, List.set_cons_zero, List.set_cons_succ]
    refine wpAnyH_take (i := 13) (oi := ⟨some 45, _, _, _, _, _⟩) (v := ?v11) rfl (by kernel_rfl) (by kernel_rfl) (by kernel_rfl) (fun _ _ _ h => h) (Or.inl ⟨by rfl, ?hy11⟩) (by assumption) ?rest11
    case hy11 => (intro W hSw; (try dsimp only at hSw); go_simp; try with_reducible rfl)
    try simp only [Act.put, List.setIfInBounds_toArray, List.set_cons_zero, List.set_cons_succ]
    refine wpAnyH_take (i := 14) (oi := ⟨some 46, _, _, _, _, _⟩) (v := ?v12) rfl (by kernel_rfl) (by kernel_rfl) (by kernel_rfl) (fun _ _ _ h => h) (Or.inl ⟨by rfl, ?hy12⟩) (by assumption) ?rest12
    case hy12 => (intro W hSw; (try dsimp only at hSw); go_simp; try with_reducible rfl)
    try simp only [Act.put, List.setIfInBounds_toArray, List.set_cons_zero, List.set_cons_succ]
    refine wpAnyH_take (i := 15) (oi := ⟨some 47, _, _, _, _, _⟩) (v := ?v13) rfl (by kernel_rfl) (by kernel_rfl) (by kernel_rfl) (fun _ _ _ h => h) (Or.inl ⟨by rfl, ?hy13⟩) (by assumption) ?rest13
    case hy13 => (intro W hSw; (try dsimp only at hSw); go_simp; try with_reducible rfl)
    try simp only [Act.put, List.setIfInBounds_toArray, List.set_cons_zero, List.set_cons_succ]
    refine wpAnyH_take (i := 16) (oi := ⟨some 48, _, _, _, _, _⟩) (v := ?v14) rfl (by kernel_rfl) (by kernel_rfl) (by kernel_rfl) (fun _ _ _ h => h) (Or.inl ⟨by rfl, ?hy14⟩) (by assumption) ?rest14
    case hy14 => (intro W hSw; (try dsimp only at hSw); go_simp; try with_reducible rfl)
    try simp only [Act.put, List.setIfInBounds_toArray, List.set_cons_zero, List.set_cons_succ]
    refine wpAnyH_take (i := 17) (oi := ⟨some 49, _, _, _, _, _⟩) (v := ?v15) rfl (by kernel_rfl) (by kernel_rfl) (by kernel_rfl) (fun _ _ _ h => h) (Or.inl ⟨by rfl, ?hy15⟩) (by assumption) ?rest15
    case hy15 => (intro W hSw; (try dsimp only at hSw); go_simp; try with_reducible rfl)
    try simp only [Act.put, List.setIfInBounds_toArray, List.set_cons_zero, List.set_cons_succ]
    refine wpAnyH_take (i := 18) (oi := ⟨some 50, _, _, _, _, _⟩) (v := ?v16) rfl (by kernel_rfl) (by kernel_rfl) (by kernel_rfl) (fun _ _ _ h => h) (Or.inl ⟨by rfl, ?hy16⟩) (by assumption) ?rest16
    case hy16 => (intro W hSw; (try dsimp only at hSw); go_simp; try with_reducible rfl)
    try simp only [Act.put, List.setIfInBounds_toArray, List.set_cons_zero, List.set_cons_succ]
    refine held_one (i := 19) (o := ⟨some 51, _, _, _, _, _⟩) rfl (by kernel_rfl) (by rfl) (fun K hK => ?_)
    go_simp
    refine (base.bytes_any P3 P4 n3 n4 p3 p4 bs bs _ HN3.out.symm HN4.out.symm (HV5.out.kept hHeld.1 (by simp)) (HX5.out.kept hHeld.1 (by simp)) (by rw [HN3.out]; exact HEL.out)).mono ?_
    rintro e w9 ⟨rfl, dd, hw9⟩
    have hk9 : Kept [] _ w9 := hw9 ▸ ((Kept.refl [] _).drewN dd)
    clear hw9
    rw [show decide (bs = bs) = true by simp]
    refine hK.out _ _ (by exact held5 hHeld hk9) (fun hHeld => ?_)
    clear hK K
    try simp only [Act.put, List.setIfInBounds_toArray, List.set_cons_zero, List.set_cons_succ]
    refine wpAnyH_take (i := 20) (oi := ⟨some 52, _, _, _, _, _⟩) (v := ?v17) rfl (by kernel_rfl) (by kernel_rfl) (by kernel_rfl) (fun _ _ _ h => h) (Or.inl ⟨by rfl, ?hy17⟩) (by assumption) ?rest17
    case hy17 => (intro W hSw; (try dsimp only at hSw); go_simp; try with_reducible rfl)
    try simp only [Act.put, List.setIfInBounds_toArray, List.set_cons_zero, List.set_cons_succ]
    refine wpAnyH_take (i := 21) (oi := ⟨some 53, _, _, _, _, _⟩) (v := ?v18) rfl (by kernel_rfl) (by kernel_rfl) (by kernel_rfl) (fun _ _ _ h => h) (Or.inl ⟨by rfl, ?hy18⟩) (by assumption) ?rest18
    case hy18 => (intro W hSw; (try dsimp only at hSw); go_simp; try with_reducible rfl)
    try simp only [Act.put, List.setIfInBounds_toArray, List.set_cons_zero, List.set_cons_succ]
    refine wpAnyH_take (i := 22) (oi := ⟨some 54, _, _, _, _, _⟩) (v := ?v19) rfl (by kernel_rfl) (by kernel_rfl) (by kernel_rfl) (fun _ _ _ h => h) (Or.inl ⟨by rfl, ?hy19⟩) (by assumption) ?rest19
    case hy19 => (intro W hSw; (try dsimp only at hSw); go_simp; try with_reducible rfl)
    try simp only [Act.put, List.setIfInBounds_toArray, List.set_cons_zero, List.set_cons_succ]
    refine wpAnyH_take (i := 23) (oi := ⟨some 55, _, _, _, _, _⟩) (v := ?v20) rfl (by kernel_rfl) (by kernel_rfl) (by kernel_rfl) (fun _ _ _ h => h) (Or.inl ⟨by rfl, ?hy20⟩) (by assumption) ?rest20
    case hy20 => (intro W hSw; (try dsimp only at hSw); go_simp; try with_reducible rfl)
    try simp only [Act.put, List.setIfInBounds_toArray, List.set_cons_zero, List.set_cons_succ]
    refine wpAnyH_take (i := 24) (oi := ⟨some 56, _, _, _, _, _⟩) (v := ?v21) rfl (by kernel_rfl) (by kernel_rfl) (by kernel_rfl) (fun _ _ _ h => h) (Or.inl ⟨by rfl, ?hy21⟩) (by assumption) ?rest21
    case hy21 => (intro W hSw; (try dsimp only at hSw); go_simp; try with_reducible rfl)
    try simp only [Act.put, List.setIfInBounds_toArray, List.set_cons_zero, List.set_cons_succ]
    refine wpAnyH_take (i := 25) (oi := ⟨some 57, _, _, _, _, _⟩) (v := ?v22) rfl (by kernel_rfl) (by kernel_rfl) (by kernel_rfl) (fun _ _ _ h => h) (Or.inl ⟨by rfl, ?hy22⟩) (by assumption) ?rest22
    case hy22 => (intro W hSw; (try dsimp only at hSw); go_simp; try with_reducible rfl)
    try simp only [Act.put, List.setIfInBounds_toArray, List.set_cons_zero, List.set_cons_succ]
    refine wpAnyH_take (i := 26) (oi := ⟨some 58, _, _, _, _, _⟩) (v := ?v23) rfl (by kernel_rfl) (by kernel_rfl) (by kernel_rfl) (fun _ _ _ h => h) (Or.inl ⟨by rfl, ?hy23⟩) (by assumption) ?rest23
    case hy23 => (intro W hSw; (try dsimp only at hSw); go_simp; try with_reducible rfl)
    try simp only [Act.put, List.setIfInBounds_toArray, List.set_cons_zero, List.set_cons_succ]
    refine held_one (i := 27) (o := ⟨some 59, _, _, _, _, _⟩) rfl (by kernel_rfl) (by rfl) (fun K hK => ?_)
    go_simp
    refine (awake_any _).mono ?_
    rintro e w10 ⟨rfl, hk10⟩
    refine hK.out _ _ (by exact held5 hHeld hk10) (fun hHeld => ?_)
    clear hK K
    try simp only [Act.put, List.setIfInBounds_toArray, List.set_cons_zero, List.set_cons_succ]
    refine wpAnyH_take (i := 28) (oi := ⟨some 60, _, _, _, _, _⟩) (v := ?v24) rfl (by kernel_rfl) (by kernel_rfl) (by kernel_rfl) (fun _ _ _ h => h) (Or.inl ⟨by rfl, ?hy24⟩) (by assumption) ?rest24
    case hy24 => (intro W hSw; (try dsimp only at hSw); go_simp; try with_reducible rfl)
    try simp only [Act.put, List.setIfInBounds_toArray, List.set_cons_zero, List.set_cons_succ]
    refine wpAnyH_take (i := 29) (oi := ⟨some 2, _, _, _, _, _⟩) (v := ?v25) rfl (by kernel_rfl) (by kernel_rfl) (by kernel_rfl) (fun _ _ _ h => h) (Or.inl ⟨by rfl, ?hy25⟩) (by assumption) ?rest25
    case hy25 => (intro W hSw; (try dsimp only at hSw); go_simp; try with_reducible rfl)
    try simp only [Act.put, List.setIfInBounds_toArray, List.set_cons_zero, List.set_cons_succ]
    refine wpAnyH_done (by kernel_rfl) ?_ _
    refine NoPanic.normal ?_
    -- END
    have HKE := hide (HK5.out.trans hHeld.1 (by simp))
    go_wp2
    go_ret
    exact ⟨rfl, HKE.out.below (by simp)⟩
  · have hm' := (Bool.not_eq_true _).mp hm
    have HLO2 : Hid (lenOf R = 0) := hide (by rw [HLO.out, if_neg hm])
    have HM := hide hm'
    rw [hm']
    clear hm hm' c0 c1 c2 c3 c4
    go_wp2
    -- REGION no
    refine wp_region_noPanic ?_
    refine wp_region_held_drew (S := fun W => Kept [] w5 W ∧ W.cell? ⟨g, 0, none⟩ = some (.int .i64 R.m) ∧ W.cell? ⟨g, 1, none⟩ = some (.int .i64 R.l) ∧ W.cell? ⟨g, 2, none⟩ = some (.int .i64 R.p) ∧ W.cell? ⟨g, 3, none⟩ = some (.slice L n c) ∧ W.cell? ⟨g, 4, none⟩ = some (.slice A k d)) (by kernel_rfl) (by exact ⟨HST.out.1.drew, HST.out.2⟩) (fun hHeld => ?_)
    refine wpAnyH_take (i := 0) (oi := ⟨some 32, _, _, _, _, _⟩) (v := ?v26) rfl (by kernel_rfl) (by kernel_rfl) (by kernel_rfl) (fun _ _ _ h => h) (Or.inl ⟨by rfl, ?hy26⟩) (by assumption) ?rest26
    case hy26 => (intro W hSw; (try dsimp only at hSw); go_simp; try with_reducible rfl)
    try simp only [Act.put, List.setIfInBounds_toArray, List.set_cons_zero, List.set_cons_succ]
    refine wpAnyH_take (i := 2) (oi := ⟨some 34, _, _, _, _, _⟩) (v := ?v27) rfl (by kernel_rfl) (by kernel_rfl) (by kernel_rfl) (fun _ _ _ h => h) (Or.inl ⟨by rfl, ?hy27⟩) (by assumption) ?rest27
    case hy27 => (intro W hSw; (try dsimp only at hSw); go_simp; try with_reducible rfl)
    try simp only [Act.put, List.setIfInBounds_toArray, List.set_cons_zero, List.set_cons_succ]
    refine held_one (i := 1) (o := ⟨some 33, _, _, _, _, _⟩) rfl (by kernel_rfl) (by rfl) (fun K hK => ?_)
    go_simp
    refine (may_any R L A n c k d _ (HR5.out.kept hHeld.1)).mono ?_
    rintro e w6 ⟨rfl, hk6⟩
    rw [HM.out]
    refine hK.out _ _ (by exact held5 hHeld hk6) (fun hHeld => ?_)
    clear hK K
    try simp only [Act.put, List.setIfInBounds_toArray, List.set_cons_zero, List.set_cons_succ]
    refine held_one (i := 3) (o := ⟨some 35, _, _, _, _, _⟩) rfl (by kernel_rfl) (by rfl) (fun K hK => ?_)
    go_simp
    refine (rmay_any' R L A n c k d _ (HR5.out.kept hHeld.1)).mono ?_
    rintro e w7 ⟨rfl, hk7⟩
    rw [HM.out]
    refine hK.out _ _ (by exact held5 hHeld hk7) (fun hHeld => ?_)
    clear hK K
    try simp only [Act.put, List.setIfInBounds_toArray, List.set_cons_zero, List.set_cons_succ]
    refine wpAnyH_take (i := 4) (oi := ⟨some 36, _, _, _, _, _⟩) (v := ?v28) rfl (by kernel_rfl) (by kernel_rfl) (by kernel_rfl) (fun _ _ _ h => h) (Or.inl ⟨by rfl, ?hy28⟩) (by assumption) ?rest28
    case hy28 => (intro W hSw; (try dsimp only at hSw); go_simp; try with_reducible rfl)
    try simp only [Act.put, List.setIfInBounds_toArray, List.set_cons_zero, List.set_cons_succ]
    refine wpAnyH_take (i := 5) (oi := ⟨some 37, _, _, _, _, _⟩) (v := ?v29) rfl (by kernel_rfl) (by kernel_rfl) (by kernel_rfl) (fun _ _ _ h => h) (Or.inl ⟨by rfl, ?hy29⟩) (by assumption) ?rest29
    case hy29 => (intro W hSw; (try dsimp only at hSw); go_simp; try with_reducible rfl)
    try simp only [Act.put, List.setIfInBounds_toArray, List.set_cons_zero, List.set_cons_succ]
    refine wpAnyH_take (i := 6) (oi := ⟨some 38, _, _, _, _, _⟩) (v := ?v30) rfl (by kernel_rfl) (by kernel_rfl) (by kernel_rfl) (fun _ _ _ h => h) (Or.inl ⟨by rfl, ?hy30⟩) (by assumption) ?rest30
    case hy30 => (intro W hSw; (try dsimp only at hSw); go_simp; try with_reducible rfl)
    try simp only [Act.put, List.setIfInBounds_toArray, List.set_cons_zero, List.set_cons_succ]
    refine wpAnyH_take (i := 8) (oi := ⟨some 40, _, _, _, _, _⟩) (v := ?v31) rfl (by kernel_rfl) (by kernel_rfl) (by kernel_rfl) (fun _ _ _ h => h) (Or.inl ⟨by rfl, ?hy31⟩) (by assumption) ?rest31
    case hy31 => (intro W hSw; (try dsimp only at hSw); go_simp; try with_reducible rfl)
    try simp only [Act.put, List.setIfInBounds_toArray, List.set_cons_zero, List.set_cons_succ]
    refine held_one (i := 7) (o := ⟨some 39, _, _, _, _, _⟩) rfl (by kernel_rfl) (by rfl) (fun K hK => ?_)
    go_simp
    refine (len_any R L A n c k d _ (HR5.out.kept hHeld.1)).mono ?_
    rintro e w8 ⟨rfl, hk8⟩
    rw [HLO2.out]
    refine hK.out _ _ (by exact held5 hHeld hk8) (fun hHeld => ?_)
    clear hK K
    try simp only [Act.put, List.setIfInBounds_toArray, List.set_cons_zero, List.set_cons_succ]
    refine wpAnyH_take (i := 9) (oi := ⟨some 41, _, _, _, _, _⟩) (v := ?v32) rfl (by kernel_rfl) (by kernel_rfl) (by kernel_rfl) (fun _ _ _ h => h) (Or.inl ⟨by rfl, ?hy32⟩) (by assumption) ?rest32
    case hy32 => (intro W hSw; (try dsimp only at hSw); go_simp; try with_reducible rfl)
    try simp only [Act.put, List.setIfInBounds_toArray, List.set_cons_zero, List.set_cons_succ]
    refine wpAnyH_take (i := 10) (oi := ⟨some 42, _, _, _, _, _⟩) (v := ?v33) rfl (by kernel_rfl) (by kernel_rfl) (by kernel_rfl) (fun _ _ _ h => h) (Or.inl ⟨by rfl, ?hy33⟩) (by assumption) ?rest33
    case hy33 => (intro W hSw; (try dsimp only at hSw); go_simp; try with_reducible rfl)
    try simp only [Act.put, List.setIfInBounds_toArray, List.set_cons_zero, List.set_cons_succ]
    refine wpAnyH_take (i := 11) (oi := ⟨some 43, _, _, _, _, _⟩) (v := ?v34) rfl (by kernel_rfl) (by kernel_rfl) (by kernel_rfl) (fun _ _ _ h => h) (Or.inl ⟨by rfl, ?hy34⟩) (by assumption) ?rest34
    case hy34 => (intro W hSw; (try dsimp only at hSw); go_simp; try with_reducible rfl)
    try simp only [Act.put, List.setIfInBounds_toArray, List.set_cons_zero, List.set_cons_succ]
    refine wpAnyH_take (i := 12) (oi := ⟨some 44, _, _, _, _, _⟩) (v := ?v35) rfl (by kernel_rfl) (by kernel_rfl) (by kernel_rfl) (fun _ _ _ h => h) (Or.inl ⟨by rfl, ?hy35⟩) (by assumption) ?rest35
    case hy35 => (intro W hSw; (try dsimp only at hSw); go_simp; try with_reducible rfl)
    try simp only [Act.put, List.setIfInBounds_toArray, List.set_cons_zero, List.set_cons_succ]
    refine wpAnyH_take (i := 13) (oi := ⟨some 45, _, _, _, _, _⟩) (v := ?v36) rfl (by kernel_rfl) (by kernel_rfl) (by kernel_rfl) (fun _ _ _ h => h) (Or.inl ⟨by rfl, ?hy36⟩) (by assumption) ?rest36
    case hy36 => (intro W hSw; (try dsimp only at hSw); go_simp; try with_reducible rfl)
    try simp only [Act.put, List.setIfInBounds_toArray, List.set_cons_zero, List.set_cons_succ]
    refine wpAnyH_take (i := 14) (oi := ⟨some 46, _, _, _, _, _⟩) (v := ?v37) rfl (by kernel_rfl) (by kernel_rfl) (by kernel_rfl) (fun _ _ _ h => h) (Or.inl ⟨by rfl, ?hy37⟩) (by assumption) ?rest37
    case hy37 => (intro W hSw; (try dsimp only at hSw); go_simp; try with_reducible rfl)
    try simp only [Act.put, List.setIfInBounds_toArray, List.set_cons_zero, List.set_cons_succ]
    refine wpAnyH_take (i := 15) (oi := ⟨some 47, _, _, _, _, _⟩) (v := ?v38) rfl (by kernel_rfl) (by kernel_rfl) (by kernel_rfl) (fun _ _ _ h => h) (Or.inl ⟨by rfl, ?hy38⟩) (by assumption) ?rest38
    case hy38 => (intro W hSw; (try dsimp only at hSw); go_simp; try with_reducible rfl)
    try simp only [Act.put, List.setIfInBounds_toArray, List.set_cons_zero, List.set_cons_succ]
    refine wpAnyH_take (i := 16) (oi := ⟨some 48, _, _, _, _, _⟩) (v := ?v39) rfl (by kernel_rfl) (by kernel_rfl) (by kernel_rfl) (fun _ _ _ h => h) (Or.inl ⟨by rfl, ?hy39⟩) (by assumption) ?rest39
    case hy39 => (intro W hSw; (try dsimp only at hSw); go_simp; try with_reducible rfl)
    try simp only [Act.put, List.setIfInBounds_toArray, List.set_cons_zero, List.set_cons_succ]
    refine wpAnyH_take (i := 17) (oi := ⟨some 49, _, _, _, _, _⟩) (v := ?v40) rfl (by kernel_rfl) (by kernel_rfl) (by kernel_rfl) (fun _ _ _ h => h) (Or.inl ⟨by rfl, ?hy40⟩) (by assumption) ?rest40
    case hy40 => (intro W hSw; (try dsimp only at hSw); go_simp; try with_reducible rfl)
    try simp only [Act.put, List.setIfInBounds_toArray, List.set_cons_zero, List.set_cons_succ]
    refine wpAnyH_take (i := 18) (oi := ⟨some 50, _, _, _, _, _⟩) (v := ?v41) rfl (by kernel_rfl) (by kernel_rfl) (by kernel_rfl) (fun _ _ _ h => h) (Or.inl ⟨by rfl, ?hy41⟩) (by assumption) ?rest41
    case hy41 => (intro W hSw; (try dsimp only at hSw); go_simp; try with_reducible rfl)
    try simp only [Act.put, List.setIfInBounds_toArray, List.set_cons_zero, List.set_cons_succ]
    refine held_one (i := 19) (o := ⟨some 51, _, _, _, _, _⟩) rfl (by kernel_rfl) (by rfl) (fun K hK => ?_)
    go_simp
    refine (base.bytes_any P3 P4 n3 n4 p3 p4 bs bs _ HN3.out.symm HN4.out.symm (HV5.out.kept hHeld.1 (by simp)) (HX5.out.kept hHeld.1 (by simp)) (by rw [HN3.out]; exact HEL.out)).mono ?_
    rintro e w9 ⟨rfl, dd, hw9⟩
    have hk9 : Kept [] _ w9 := hw9 ▸ ((Kept.refl [] _).drewN dd)
    clear hw9
    rw [show decide (bs = bs) = true by simp]
    refine hK.out _ _ (by exact held5 hHeld hk9) (fun hHeld => ?_)
    clear hK K
    try simp only [Act.put, List.setIfInBounds_toArray, List.set_cons_zero, List.set_cons_succ]
    refine wpAnyH_take (i := 20) (oi := ⟨some 52, _, _, _, _, _⟩) (v := ?v42) rfl (by kernel_rfl) (by kernel_rfl) (by kernel_rfl) (fun _ _ _ h => h) (Or.inl ⟨by rfl, ?hy42⟩) (by assumption) ?rest42
    case hy42 => (intro W hSw; (try dsimp only at hSw); go_simp; try with_reducible rfl)
    try simp only [Act.put, List.setIfInBounds_toArray, List.set_cons_zero, List.set_cons_succ]
    refine wpAnyH_take (i := 21) (oi := ⟨some 53, _, _, _, _, _⟩) (v := ?v43) rfl (by kernel_rfl) (by kernel_rfl) (by kernel_rfl) (fun _ _ _ h => h) (Or.inl ⟨by rfl, ?hy43⟩) (by assumption) ?rest43
    case hy43 => (intro W hSw; (try dsimp only at hSw); go_simp; try with_reducible rfl)
    try simp only [Act.put, List.setIfInBounds_toArray, List.set_cons_zero, List.set_cons_succ]
    refine wpAnyH_take (i := 22) (oi := ⟨some 54, _, _, _, _, _⟩) (v := ?v44) rfl (by kernel_rfl) (by kernel_rfl) (by kernel_rfl) (fun _ _ _ h => h) (Or.inl ⟨by rfl, ?hy44⟩) (by assumption) ?rest44
    case hy44 => (intro W hSw; (try dsimp only at hSw); go_simp; try with_reducible rfl)
    try simp only [Act.put, List.setIfInBounds_toArray, List.set_cons_zero, List.set_cons_succ]
    refine wpAnyH_take (i := 23) (oi := ⟨some 55, _, _, _, _, _⟩) (v := ?v45) rfl (by kernel_rfl) (by kernel_rfl) (by kernel_rfl) (fun _ _ _ h => h) (Or.inl ⟨by rfl, ?hy45⟩) (by assumption) ?rest45
    case hy45 => (intro W hSw; (try dsimp only at hSw); go_simp; try with_reducible rfl)
    try simp only [Act.put, List.setIfInBounds_toArray, List.set_cons_zero, List.set_cons_succ]
    refine wpAnyH_take (i := 24) (oi := ⟨some 56, _, _, _, _, _⟩) (v := ?v46) rfl (by kernel_rfl) (by kernel_rfl) (by kernel_rfl) (fun _ _ _ h => h) (Or.inl ⟨by rfl, ?hy46⟩) (by assumption) ?rest46
    case hy46 => (intro W hSw; (try dsimp only at hSw); go_simp; try with_reducible rfl)
    try simp only [Act.put, List.setIfInBounds_toArray, List.set_cons_zero, List.set_cons_succ]
    refine wpAnyH_take (i := 25) (oi := ⟨some 57, _, _, _, _, _⟩) (v := ?v47) rfl (by kernel_rfl) (by kernel_rfl) (by kernel_rfl) (fun _ _ _ h => h) (Or.inl ⟨by rfl, ?hy47⟩) (by assumption) ?rest47
    case hy47 => (intro W hSw; (try dsimp only at hSw); go_simp; try with_reducible rfl)
    try simp only [Act.put, List.setIfInBounds_toArray, List.set_cons_zero, List.set_cons_succ]
    refine wpAnyH_take (i := 26) (oi := ⟨some 58, _, _, _, _, _⟩) (v := ?v48) rfl (by kernel_rfl) (by kernel_rfl) (by kernel_rfl) (fun _ _ _ h => h) (Or.inl ⟨by rfl, ?hy48⟩) (by assumption) ?rest48
    case hy48 => (intro W hSw; (try dsimp only at hSw); go_simp; try with_reducible rfl)
    try simp only [Act.put, List.setIfInBounds_toArray, List.set_cons_zero, List.set_cons_succ]
    refine held_one (i := 27) (o := ⟨some 59, _, _, _, _, _⟩) rfl (by kernel_rfl) (by rfl) (fun K hK => ?_)
    go_simp
    refine (awake_any _).mono ?_
    rintro e w10 ⟨rfl, hk10⟩
    refine hK.out _ _ (by exact held5 hHeld hk10) (fun hHeld => ?_)
    clear hK K
    try simp only [Act.put, List.setIfInBounds_toArray, List.set_cons_zero, List.set_cons_succ]
    refine wpAnyH_take (i := 28) (oi := ⟨some 60, _, _, _, _, _⟩) (v := ?v49) rfl (by kernel_rfl) (by kernel_rfl) (by kernel_rfl) (fun _ _ _ h => h) (Or.inl ⟨by rfl, ?hy49⟩) (by assumption) ?rest49
    case hy49 => (intro W hSw; (try dsimp only at hSw); go_simp; try with_reducible rfl)
    try simp only [Act.put, List.setIfInBounds_toArray, List.set_cons_zero, List.set_cons_succ]
    refine wpAnyH_take (i := 29) (oi := ⟨some 2, _, _, _, _, _⟩) (v := ?v50) rfl (by kernel_rfl) (by kernel_rfl) (by kernel_rfl) (fun _ _ _ h => h) (Or.inl ⟨by rfl, ?hy50⟩) (by assumption) ?rest50
    case hy50 => (intro W hSw; (try dsimp only at hSw); go_simp; try with_reducible rfl)
    try simp only [Act.put, List.setIfInBounds_toArray, List.set_cons_zero, List.set_cons_succ]
    refine wpAnyH_done (by kernel_rfl) ?_ _
    refine NoPanic.normal ?_
    -- END
    have HKE := hide (HK5.out.trans hHeld.1 (by simp))
    go_wp2
    go_ret
    exact ⟨rfl, HKE.out.below (by simp)⟩

theorem walk (R : Rc) (L A : Option Addr) (n c k d : Nat) (w : World) (hn : R.its.length = n) (hk : R.bks.length = k) (hi : Items w [] L R.its) (hb : PartsAny w A R.bks) :
    Calls Try.prog 3 #[.agg #[.int .i64 R.m, .int .i64 R.l, .int .i64 R.p, .slice L n c, .slice A k d]] w fun e w' => e = .returned (.bool true) ∧ Below w.heap.size w w' := by
  cases hf : fewB n k R.bks
  · exact walk_big R L A n c k d w hk hb hf
  · refine walk_in R L A n c k d w ⟨hn, hk, hi, hb.parts (fun b hb => ?_)⟩ hf
    unfold fewB at hf
    rw [Bool.and_eq_true, decide_eq_true_iff, decide_eq_true_iff] at hf
    have := hf.2 b hb
    omega

/-! ### the row's step, as the guide's skeleton has it -/
set_option maxRecDepth 100000 in
theorem lifted (os : Os) (started : os.Started) (H : Type) (enc : TypeId × Value → H) :
    ReturnsInHanded {} Try.checked os 3 .any (Rows.recordTellsSpec.pre6 enc Try.prog Try.f3 Rows.recordTellsRow.domain false) (Rows.recordTellsSpec.post enc Try.prog Try.f3 false true false false) := by
  refine returnsInHanded_of_change (C := Try.checked) own started (by kernel_rfl) Try.func3
    (ChangeSpec.witness6 (enc := enc) (C := Try.checked) false ⟨#[], #[.agg #[.int .i64 0, .int .i64 0, .int .i64 0, .slice none 0 0, .slice none 0 0]], []⟩ 8 (by kernel_rfl) (by kernel_rfl) (by kernel_rfl) (by kernel_rfl)) ?_
  intro W base args ds gs before hval0 hW hcnd _
  have hval : ∀ (j : Nat) t v, Try.f3.params[j]? = some t → args[j]? = some v → Value.okWide Try.prog W .any base t v := hval0
  have hW' := hW
  obtain ⟨p, q, hA0, hV, rfl, hfz, hnd⟩ := hW
  have hA : DataW.TrodAll enc Try.prog W 0 (fun _ => true) true Try.f3.params.toList args.toList ds p := hA0
  rw [Try.params3] at hA hval
  obtain ⟨v0, vs0, d0, ds0, p0, q0, hargs, rfl, rfl, h0, r0⟩ := trodAll_cons hA
  obtain ⟨rfl, rfl, rfl⟩ := trodAll_nil r0
  obtain rfl : args = #[v0] := by cases args; simp_all
  obtain ⟨rfl, rfl⟩ := trodVars_none hV
  have k0 := h0
  have lt0 : ∀ x ∈ p0, x.block < W.heap.size := by obtain ⟨m, hm⟩ := k0; exact DataW.trod_lt m _ _ _ hm
  obtain ⟨cs0, rfl, hcs0⟩ := agg_cells (t := 25) (by kernel_rfl) (hval 0 25 v0 rfl rfl)
  obtain ⟨R, L, n, c, A, k, d, hcs, hn, hk, hi, hb⟩ : ∃ (R : Rc) (L : Option Addr) (n c : Nat) (A : Option Addr) (k d : Nat), cs0 = #[.int .i64 R.m, .int .i64 R.l, .int .i64 R.p, .slice L n c, .slice A k d] ∧ R.its.length = n ∧ R.bks.length = k ∧ Items W [] L R.its ∧ PartsAny W A R.bks := by
    obtain ⟨fuel, hf⟩ := h0
    obtain ⟨R, L, n, c, A, k, d, h1, h2⟩ := rec_of hf
    refine ⟨R, L, n, c, A, k, d, ?_, h2⟩
    have h1 : cs0.toList = _ := h1
    apply Array.ext'
    rw [h1]
  subst hcs
  clear hA0 hval0
  refine (walk R L A n c k d W hn hk hi hb).mono fun e W' ⟨he, bel⟩ => ?_
  subst he
  exact ⟨_, rfl, _, _, _, [], _, [], hW', trodAll_mk1 (shut_bool Try.underlying4 _), (trodAll_cons_mk (Below.trod laidOut (by kernel_rfl) (of_decide_eq_true (by kernel_rfl)) k0 bel lt0) trodAll_mk0), rfl, bel.frame _, fun h => by cases h⟩

theorem over : Rows.recordTellsRow.holds Try.pinned (OpenSpec.ofChange Rows.recordTellsSpec) :=
  OpenClaim.holds_of_wide 3 Try.f3 rfl rfl rfl rfl rfl rfl rfl ⟨rfl, rfl, rfl, rfl, rfl⟩ rfl rfl rfl rfl rfl (by kernel_rfl) Try.func3 (by kernel_rfl)
    (of_decide_eq_true (by kernel_rfl)) (by unfold Func.isWrapper; first | (rw [if_pos (by decide +kernel)]; kernel_rfl) | (rw [if_neg (by decide +kernel)]; exact ⟨rfl, rfl⟩))
    (fun os started H enc _ => lifted os started H enc)

/-- The statement. -/
theorem proved : Rows.RecordTellsSaid := over
#print axioms proved
end Go.Proofs.Ytepooidgmaokeaa.recordTells

