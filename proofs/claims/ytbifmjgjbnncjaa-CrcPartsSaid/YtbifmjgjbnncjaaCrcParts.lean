/-
  The given statement CrcPartsSaid is proved: whatever the arguments are, the law returns true and leaves its input as it was. No conditions.
-/
import Derived.Test.YtbifmjgjbnncjaaOpen
import Derived.Test.YtbifmjgjbnncjaaCrcAwake
import Derived.WalkKit
import Derived.ProofKit
import Derived.OpenShut
import Derived.ShutString
import Derived.ChangeOld
import Derived.Below
namespace Go.Proofs.Ytbifmjgjbnncjaa.crcParts
open Go.ChangeShapes Go.WideShapes Go.ChangeAt Go.RowKit
open Go.ChangeMaps (open_string shut_string)
open Go.Proofs.Ytbifmjgjbnncjaa.mem Go.Proofs.Ytbifmjgjbnncjaa.base Go.Proofs.Ytbifmjgjbnncjaa.crc
set_option linter.unusedVariables false

theorem own : ownKnob Try.prog.godebug = none := by kernel_rfl
theorem laidOut : laidOutB Try.prog = true := by kernel_rfl

/-- Values that are slices of these bytes. -/
def PartsOf (w : World) (vs : List Value) (bss : List (List UInt8)) : Prop :=
  vs.length = bss.length ∧ ∀ (i : Nat) (bs : List UInt8), bss[i]? = some bs → ∃ Ai ci, vs[i]? = some (.slice Ai bs.length ci) ∧ bs.length ≤ 140737488355328 ∧ Vals w [] Ai (bs.map B)
theorem PartsOf.kept {w w' : World} {vs : List Value} {bss : List (List UInt8)} (h : PartsOf w vs bss) (k : Kept [] w w') : PartsOf w' vs bss :=
  ⟨h.1, fun i bs hb => by
    obtain ⟨Ai, ci, h4, h5, h6⟩ := h.2 i bs hb
    exact ⟨Ai, ci, h4, h5, h6.kept k (by simp)⟩⟩
theorem PartsOf.parts {w : World} {vs : List Value} {bss : List (List UInt8)} (h : PartsOf w vs bss) {A : Option Addr} (hv : Vals w [] A vs) : Parts w A bss := ⟨vs, h.1, hv, h.2⟩
theorem PartsOf.nil (w : World) : PartsOf w [] [] := ⟨rfl, by simp⟩
theorem PartsOf.snoc {w : World} {vs : List Value} {bss : List (List UInt8)} (h : PartsOf w vs bss) (A : Option Addr) (n c : Nat) (bs : List UInt8) (hl : bs.length = n) (hn : n ≤ 140737488355328) (hv : Vals w [] A (bs.map B)) :
    PartsOf w (vs ++ [.slice A n c]) (bss ++ [bs]) :=
  ⟨by simp [h.1], fun i b hb => by
    rcases Nat.lt_or_ge i bss.length with hi | hi
    · rw [List.getElem?_append_left hi] at hb
      obtain ⟨Ai, ci, h4, h5, h6⟩ := h.2 i b hb
      exact ⟨Ai, ci, by rw [List.getElem?_append_left (by rw [h.1]; exact hi)]; exact h4, h5, h6⟩
    · rw [List.getElem?_append_right hi] at hb
      have hi2 : i - bss.length = 0 := by
        have := (List.getElem?_eq_some_iff.1 hb).1
        simp at this
        omega
      rw [hi2] at hb
      simp only [List.getElem?_cons_zero, Option.some.injEq] at hb
      subst hb
      refine ⟨A, c, ?_, by omega, hv⟩
      rw [List.getElem?_append_right (by rw [h.1]; exact hi), h.1, hi2, hl]
      rfl⟩

theorem slice_info : (Try.prog.info? 23).map (fun i => (i.zero, i.size, i.bytes)) = some (some (.slice none 0 0), 1, 24) := by kernel_rfl
theorem vals_slice (w : World) (v : Value) (t : TypeId) : Vals (w.alloc (.cells #[v] t)) [] (some ⟨w.heap.size, 0, none⟩) [v] :=
  Vals.blk 0 (Blk.new w t #[v]) (by simp) (fun i u hu => by
    rcases i with _ | i
    · simpa using hu
    · simp at hu)
theorem oneCell_slice (A : Option Addr) (n c : Nat) : ∀ u ∈ [Value.slice A n c], u.oneCell' = true := by
  intro u hu
  simp only [List.mem_cons, List.not_mem_nil, or_false] at hu
  subst hu
  rfl

set_option maxRecDepth 100000 in
set_option maxHeartbeats 1000000 in
theorem walk_out (a b : Option Addr) (n c m d : Nat) (w : World) (h : 1000 < n ∨ n ≤ 1000 ∧ 20 < m) :
    Calls Try.prog 4 #[.slice a n c, .slice b m d] w fun e w' => e = .returned (.bool true) ∧ Below w.heap.size w w' := by
  rcases h with h | h
  all_goals
    go_enter Try.func4, Try.ntmps4
    go_wp2_with (go_at_call 8; refine (awake_any _).mono ?_; rintro e w' ⟨rfl, hb⟩)
    all_goals go_ret
    all_goals exact ⟨rfl, hb.below (by simp)⟩

set_option maxRecDepth 100000 in
set_option maxHeartbeats 1000000 in
theorem walk_in (a b : Option Addr) (n c m d : Nat) (bs : List UInt8) (l : List Int) (w : World) (hv : Vals w [] a (bs.map B)) (hl : bs.length = n) (hnc : n ≤ c) (hv2 : Vals w [] b (l.map I)) (hl2 : l.length = m) (hn : n ≤ 1000) (hm : m ≤ 20) :
    Calls Try.prog 4 #[.slice a n c, .slice b m d] w fun e w' => e = .returned (.bool true) ∧ Below w.heap.size w w' := by
  have HV := hide hv
  have HL := hide hl
  have HV2 := hide hv2
  have HL2 := hide hl2
  clear hv hl hv2 hl2
  go_enter Try.func4, Try.ntmps4
  go_wp2_with fail
  refine (sum_any _ _ _ [bs] _ (parts_one _ _ 23 _ n c bs (Blk.new w _ _) HL.out (by omega) (HV.out.kept ((Kept.refl [] w).alloc _) (by simp))) rfl (by simp)).mono ?_
  rintro e w1 ⟨rfl, hw⟩
  have K1 : Hid (Kept [] w w1) := hide (by rw [← hw]; exact (Kept.refl [] w).alloc _)
  rw [show [bs].flatten = bs by simp]
  clear hw
  obtain ⟨X, hX⟩ : ∃ X, more 0 bs = X := ⟨_, rfl⟩
  rw [hX]
  have HX := hide hX
  have hXl : X ≤ 4294967295 := by rw [← hX]; exact more_le _ _
  clear hX
  go_wp2_with fail
  refine (sum_any _ _ _ [] _ (Parts.nil _ _) rfl (by simp)).mono ?_
  rintro e w2 ⟨rfl, rfl⟩
  rw [none_sum]
  go_wp2
  go_loopw [6, 7, 8, 9] (fun s f v i wr => ∃ (k g : Nat) (vs : List Value) (bss : List (List UInt8)), k ≤ m ∧ g ≤ n ∧ i = .int .i64 k ∧ f = .int .i64 g ∧ s = .int .i64 (more 0 (bs.take g)) ∧ Hid (wr.ownsRow w.heap.size 23 1 v k vs) ∧ Hid (PartsOf w vs bss) ∧ Hid (bss.flatten = bs.take g) ∧ Hid (Kept [] w wr)) (fun s f v i wr => m - (intOf i).toNat)
  case atStart => exact ⟨0, 0, [], [], by omega, by omega, rfl, rfl, more_start0 bs, hide (World.ownsRow_nil _ _ _ _), hide (PartsOf.nil _), hide (by simp), K1⟩
  case round =>
    obtain ⟨k, g, vs, bss, hk, hg, rfl, rfl, rfl, HO, HP, HB, HK⟩ := hrel
    obtain ⟨Y, hY⟩ : ∃ Y, more 0 (bs.take g) = Y := ⟨_, rfl⟩
    rw [hY]
    have HY := hide hY
    have hYl : Y ≤ 4294967295 := by rw [← hY]; exact more_le _ _
    clear hY
    by_cases hlt : k < m
    · have hkl : k < l.length := by rw [HL2.out]; exact hlt
      obtain ⟨ad, rfl, _, hc⟩ := (HV2.out.kept HK.out (by simp)) k (I l[k]) (by simp [hkl])
      unfold I at hc
      generalize l[k] = z at hc
      by_cases hcg : c = g
      · subst hcg
        go_wp2_with fail
        refine (round_any z ((n : Int) - c + 1) _ (by omega) (by omega)).mono ?_
        rintro e w3 ⟨rfl, rfl⟩
        obtain ⟨r, hr⟩ : ∃ r : Nat, z % ((n : Int) - c + 1) = r := ⟨(z % ((n : Int) - c + 1)).toNat, by have := Int.emod_nonneg z (show ((n : Int) - c + 1) ≠ 0 by omega); omega⟩
        have hr2 : r + c ≤ n := by have := Int.emod_lt_of_pos z (show 0 < ((n : Int) - c + 1) by omega); omega
        rw [hr]
        clear hr
        obtain rfl : r = 0 := by omega
        have HC : Hid (Vals w [] a (((bs.drop c).take 0).map B)) := hide (by simpa using Vals.nil w [] a)
        have HCL : Hid (((bs.drop c).take 0).length = 0) := hide (by simp)
        go_wp2_with fail
        refine (more_at Y a 0 0 ((bs.drop c).take 0) _ hYl (HC.out.kept HK.out (by simp)) HCL.out (by omega)).mono ?_
        rintro e w4 ⟨rfl, rfl⟩
        rw [← HY.out, more_more, show bs.take c ++ (bs.drop c).take 0 = bs.take (c + 0) from List.take_add.symm]
        generalize hZ : more 0 (bs.take (c + 0)) = Z
        have HZ := hide hZ
        clear hZ
        go_wp2_with (at_builtin; refine wpList_append_vals rfl (.tmp 48) (.tmp 53) 22 rfl w.heap.size 23 (.slice none 0 0) 1 24 Try.underlying22 slice_info rfl (by omega) u8 k vs rfl (HO.out.alloc _) [] _ 1 1 [.slice a 0 0] rfl rfl (vals_slice _ _ _) (oneCell_slice _ _ _) (by simp only [maxLen]; omega) (by omega) (by have := HK.out.size; simp; omega) ?_; intro v1 w5 hown1 hk1 hat1)
        have K1 := kept_own HO.out (Nat.le_refl _) HK.out _ hk1
        exact ⟨⟨k + 1, c, vs ++ [.slice a 0 0], bss ++ [(bs.drop c).take 0], by omega, by omega, by go_num, by go_num, by rw [← HZ.out, Nat.add_zero], hide hown1, hide (HP.out.snoc a 0 0 _ HCL.out (by omega) HC.out), hide (by rw [List.flatten_append, HB.out]; simp), hide K1⟩, by simp [intOf]; omega⟩
      · skip
        go_wp2_with fail
        refine (round_any z ((n : Int) - g + 1) _ (by omega) (by omega)).mono ?_
        rintro e w3 ⟨rfl, rfl⟩
        obtain ⟨r, hr⟩ : ∃ r : Nat, z % ((n : Int) - g + 1) = r := ⟨(z % ((n : Int) - g + 1)).toNat, by have := Int.emod_nonneg z (show ((n : Int) - g + 1) ≠ 0 by omega); omega⟩
        have hr2 : r + g ≤ n := by have := Int.emod_lt_of_pos z (show 0 < ((n : Int) - g + 1) by omega); omega
        rw [hr]
        clear hr
        have HC : Hid (Vals w [] (a.map (fun x => x.add g)) (((bs.drop g).take r).map B)) := hide (by have := HV.out.cut g r; simpa using this)
        have HCL : Hid (((bs.drop g).take r).length = r) := hide (by have := HL.out; simp; omega)
        go_wp2_with fail
        refine (more_at Y (a.map (fun x => x.add g)) r (c - g) ((bs.drop g).take r) _ hYl (HC.out.kept HK.out (by simp)) HCL.out (by omega)).mono ?_
        rintro e w4 ⟨rfl, rfl⟩
        rw [← HY.out, more_more, show bs.take g ++ (bs.drop g).take r = bs.take (g + r) from List.take_add.symm]
        generalize hZ : more 0 (bs.take (g + r)) = Z
        have HZ := hide hZ
        clear hZ
        go_wp2_with (at_builtin; refine wpList_append_vals rfl (.tmp 48) (.tmp 53) 22 rfl w.heap.size 23 (.slice none 0 0) 1 24 Try.underlying22 slice_info rfl (by omega) u8 k vs rfl (HO.out.alloc _) [] _ 1 1 [.slice (a.map (fun x => x.add g)) r (c - g)] rfl rfl (vals_slice _ _ _) (oneCell_slice _ _ _) (by simp only [maxLen]; omega) (by omega) (by have := HK.out.size; simp; omega) ?_; intro v1 w5 hown1 hk1 hat1)
        have K1 := kept_own HO.out (Nat.le_refl _) HK.out _ hk1
        exact ⟨⟨k + 1, g + r, vs ++ [.slice (a.map (fun x => x.add g)) r (c - g)], bss ++ [(bs.drop g).take r], by omega, by omega, by go_num, by go_num, by rw [HZ.out], hide hown1, hide (HP.out.snoc (a.map (fun x => x.add g)) r (c - g) _ HCL.out (by omega) HC.out), hide (by rw [List.flatten_append, HB.out]; simp [List.take_add]), hide K1⟩, by simp [intOf]; omega⟩
    · obtain rfl : k = m := by omega
      by_cases hcg : c = g
      · subst hcg
        obtain rfl : n = c := by omega
        have hd : bs.drop n = [] := List.drop_eq_nil_of_le (by rw [HL.out]; exact Nat.le_refl _)
        have HC : Hid (Vals w [] a ((bs.drop n).map B)) := hide (by rw [hd]; exact Vals.nil w [] a)
        have HCL : Hid ((bs.drop n).length = 0) := hide (by rw [hd]; rfl)
        go_wp2_with (at_builtin; refine wpList_append_vals rfl (.tmp 56) (.tmp 60) 22 rfl w.heap.size 23 (.slice none 0 0) 1 24 Try.underlying22 slice_info rfl (by omega) u8 k vs rfl (HO.out.alloc _) [] _ 1 1 [.slice a 0 0] rfl rfl (vals_slice _ _ _) (oneCell_slice _ _ _) (by simp only [maxLen]; omega) (by omega) (by have := HK.out.size; simp; omega) ?_; intro v1 w5 hown1 hk1 hat1)
        have K5 := hide (kept_own HO.out (Nat.le_refl _) HK.out _ hk1)
        obtain ⟨A0, c0, rfl, hnc0, _, hVv, _⟩ := own_slice hown1
        have P5 : Hid (Parts w5 A0 (bss ++ [bs.drop n])) := hide (((HP.out.snoc a 0 0 _ HCL.out (by omega) HC.out).kept K5.out).parts (hVv [] (by simp)))
        have HLn : Hid ((bss ++ [bs.drop n]).length = k + 1) := hide (by
          have h1 := hown1.1
          have h2 := HP.out.1
          simp at h1
          simp
          omega)
        have HFl : Hid ((bss ++ [bs.drop n]).flatten = bs) := hide (by rw [List.flatten_append, HB.out]; simp)
        clear hown1 hk1 hat1 hVv HO HP HB
        go_wp2_with fail
        refine (more_at Y a 0 0 (bs.drop n) _ hYl (HC.out.kept K5.out (by simp)) HCL.out (by omega)).mono ?_
        rintro e w6 ⟨rfl, rfl⟩
        rw [← HY.out, more_more, List.take_append_drop, HX.out]
        go_wp2_with fail
        refine (sum_any A0 (k + 1) c0 (bss ++ [bs.drop n]) _ P5.out HLn.out (by omega)).mono ?_
        rintro e w6 ⟨rfl, rfl⟩
        rw [HFl.out, HX.out]
        clear HC HCL P5 HLn HFl
        go_wp2_with (go_at_call 8; refine (awake_any _).mono ?_; rintro e w7 ⟨rfl, hb⟩)
        go_ret
        exact ⟨rfl, (K5.out.trans hb (by simp)).below (by simp)⟩
      · have HC : Hid (Vals w [] (a.map (fun x => x.add g)) ((bs.drop g).map B)) := hide (by
          have := HV.out.cut g (n - g)
          rwa [List.take_of_length_le (by have := HL.out; simp; omega), ← List.map_drop] at this)
        have HCL : Hid ((bs.drop g).length = n - g) := hide (by have := HL.out; simp; omega)
        go_wp2_with (at_builtin; refine wpList_append_vals rfl (.tmp 56) (.tmp 60) 22 rfl w.heap.size 23 (.slice none 0 0) 1 24 Try.underlying22 slice_info rfl (by omega) u8 k vs rfl (HO.out.alloc _) [] _ 1 1 [.slice (a.map (fun x => x.add g)) (n - g) (c - g)] rfl rfl (vals_slice _ _ _) (oneCell_slice _ _ _) (by simp only [maxLen]; omega) (by omega) (by have := HK.out.size; simp; omega) ?_; intro v1 w5 hown1 hk1 hat1)
        have K5 := hide (kept_own HO.out (Nat.le_refl _) HK.out _ hk1)
        obtain ⟨A0, c0, rfl, hnc0, _, hVv, _⟩ := own_slice hown1
        have P5 : Hid (Parts w5 A0 (bss ++ [bs.drop g])) := hide (((HP.out.snoc (a.map (fun x => x.add g)) (n - g) (c - g) _ HCL.out (by omega) HC.out).kept K5.out).parts (hVv [] (by simp)))
        have HLn : Hid ((bss ++ [bs.drop g]).length = k + 1) := hide (by
          have h1 := hown1.1
          have h2 := HP.out.1
          simp at h1
          simp
          omega)
        have HFl : Hid ((bss ++ [bs.drop g]).flatten = bs) := hide (by rw [List.flatten_append, HB.out]; simp)
        clear hown1 hk1 hat1 hVv HO HP HB
        go_wp2_with fail
        refine (more_at Y (a.map (fun x => x.add g)) (n - g) (c - g) (bs.drop g) _ hYl (HC.out.kept K5.out (by simp)) HCL.out (by omega)).mono ?_
        rintro e w6 ⟨rfl, rfl⟩
        rw [← HY.out, more_more, List.take_append_drop, HX.out]
        go_wp2_with fail
        refine (sum_any A0 (k + 1) c0 (bss ++ [bs.drop g]) _ P5.out HLn.out (by omega)).mono ?_
        rintro e w6 ⟨rfl, rfl⟩
        rw [HFl.out, HX.out]
        clear HC HCL P5 HLn HFl
        go_wp2_with (go_at_call 8; refine (awake_any _).mono ?_; rintro e w7 ⟨rfl, hb⟩)
        go_ret
        exact ⟨rfl, (K5.out.trans hb (by simp)).below (by simp)⟩

theorem walk (a0 : Option Addr) (len0 cap0 : Nat) (z0 : List Int) (a1 : Option Addr) (len1 cap1 : Nat) (z1 : List Int) (w : World) (w0 : IsRow .u8 w a0 len0 cap0 z0) (w1 : IsRow .i64 w a1 len1 cap1 z1) :
    Calls Try.prog 4 #[.slice a0 len0 cap0, .slice a1 len1 cap1] w fun e w' => e = .returned (.bool true) ∧ Below w.heap.size w w' := by
  obtain ⟨bs, hl, hnc, hv, _⟩ := w0.bytes
  obtain ⟨l, hl2, _, hv2, _⟩ := w1.ints
  by_cases h : len0 ≤ 1000
  · by_cases h2 : len1 ≤ 20
    · exact walk_in a0 a1 len0 cap0 len1 cap1 bs l w hv hl hnc hv2 hl2 h h2
    · exact walk_out a0 a1 len0 cap0 len1 cap1 w (.inr ⟨h, by omega⟩)
  · exact walk_out a0 a1 len0 cap0 len1 cap1 w (.inl (by omega))

/-! ### the row's step, as the guide's skeleton has it -/
set_option maxRecDepth 100000 in
theorem lifted (os : Os) (started : os.Started) (H : Type) (enc : TypeId × Value → H) :
    ReturnsInHanded {} Try.checked os 4 .any (Rows.crcPartsSpec.pre6 enc Try.prog Try.f4 Rows.crcPartsRow.domain false) (Rows.crcPartsSpec.post enc Try.prog Try.f4 false true false false) := by
  refine returnsInHanded_of_change (C := Try.checked) own started (by kernel_rfl) Try.func4
    (ChangeSpec.witness6 (enc := enc) (C := Try.checked) false ⟨#[], #[.slice none 0 0, .slice none 0 0], []⟩ 8 (by kernel_rfl) (by kernel_rfl) (by kernel_rfl) (by kernel_rfl)) ?_
  intro W base args ds gs before hval0 hW hcnd _
  have hval : ∀ (j : Nat) t v, Try.f4.params[j]? = some t → args[j]? = some v → Value.okWide Try.prog W .any base t v := hval0
  have hW' := hW
  obtain ⟨p, q, hA0, hV, rfl, hfz, hnd⟩ := hW
  have hA : DataW.TrodAll enc Try.prog W 0 (fun _ => true) true Try.f4.params.toList args.toList ds p := hA0
  rw [Try.params4] at hA hval
  obtain ⟨v0, vs0, d0, ds0, p0, q0, hargs, rfl, rfl, h0, r0⟩ := trodAll_cons hA
  obtain ⟨v1, vs1, d1, ds1, p1, q1, rfl, rfl, rfl, h1, r1⟩ := trodAll_cons r0
  obtain ⟨rfl, rfl, rfl⟩ := trodAll_nil r1
  obtain rfl : args = #[v0, v1] := by cases args; simp_all
  obtain ⟨rfl, rfl⟩ := trodVars_none hV
  obtain ⟨a0, len0, cap0, rfl⟩ := okWide_slice Try.underlying23 (hval 0 23 v0 rfl rfl)
  have k0 := h0
  have lt0 : ∀ x ∈ p0, x.block < W.heap.size := by obtain ⟨m, hm⟩ := k0; exact DataW.trod_lt m _ _ _ hm
  obtain ⟨z0, w0⟩ : ∃ zs, IsRow .u8 W a0 len0 cap0 zs := by
    obtain ⟨fuel, hf⟩ := h0
    rcases open_ints Try.underlying23 Try.underlying5 (by kernel_rfl) hf with ⟨hcs, _⟩ | ⟨x, l, c, zs, hcs, _, hl, hm, hz, _, hcell, hwz⟩
    · simp [Value.cells] at hcs
      obtain ⟨rfl, rfl, rfl⟩ := hcs
      exact ⟨[], .inl ⟨rfl, rfl, rfl, rfl⟩⟩
    · simp [Value.cells] at hcs
      obtain ⟨rfl, rfl, rfl⟩ := hcs
      exact ⟨zs, .inr ⟨_, rfl, hl, hm, by simpa using hz, hcell, hwz⟩⟩
  obtain ⟨a1, len1, cap1, rfl⟩ := okWide_slice Try.underlying31 (hval 1 31 v1 rfl rfl)
  have k1 := h1
  have lt1 : ∀ x ∈ p1, x.block < W.heap.size := by obtain ⟨m, hm⟩ := k1; exact DataW.trod_lt m _ _ _ hm
  obtain ⟨z1, w1⟩ : ∃ zs, IsRow .i64 W a1 len1 cap1 zs := by
    obtain ⟨fuel, hf⟩ := h1
    rcases open_ints Try.underlying31 Try.underlying3 (by kernel_rfl) hf with ⟨hcs, _⟩ | ⟨x, l, c, zs, hcs, _, hl, hm, hz, _, hcell, hwz⟩
    · simp [Value.cells] at hcs
      obtain ⟨rfl, rfl, rfl⟩ := hcs
      exact ⟨[], .inl ⟨rfl, rfl, rfl, rfl⟩⟩
    · simp [Value.cells] at hcs
      obtain ⟨rfl, rfl, rfl⟩ := hcs
      exact ⟨zs, .inr ⟨_, rfl, hl, hm, by simpa using hz, hcell, hwz⟩⟩
  clear hA0 hval0
  refine (walk a0 len0 cap0 z0 a1 len1 cap1 z1 W w0 w1).mono fun e W' ⟨he, bel⟩ => ?_
  subst he
  exact ⟨_, rfl, _, _, _, [], _, [], hW', trodAll_mk1 (shut_bool Try.underlying4 _), (trodAll_cons_mk (Below.trod laidOut (by kernel_rfl) (of_decide_eq_true (by kernel_rfl)) k0 bel lt0) (trodAll_cons_mk (Below.trod laidOut (by kernel_rfl) (of_decide_eq_true (by kernel_rfl)) k1 bel lt1) trodAll_mk0)), rfl, bel.frame _, fun h => by cases h⟩

theorem over : Rows.crcPartsRow.holds Try.pinned (OpenSpec.ofChange Rows.crcPartsSpec) :=
  OpenClaim.holds_of_wide 4 Try.f4 rfl rfl rfl rfl rfl rfl rfl ⟨rfl, rfl, rfl, rfl, rfl⟩ rfl rfl rfl rfl rfl (by kernel_rfl) Try.func4 (by kernel_rfl)
    (of_decide_eq_true (by kernel_rfl)) (by unfold Func.isWrapper; first | (rw [if_pos (by decide +kernel)]; kernel_rfl) | (rw [if_neg (by decide +kernel)]; exact ⟨rfl, rfl⟩))
    (fun os started H enc _ => lifted os started H enc)

/-- The statement. -/
theorem proved : Rows.CrcPartsSaid := over
#print axioms proved
end Go.Proofs.Ytbifmjgjbnncjaa.crcParts

