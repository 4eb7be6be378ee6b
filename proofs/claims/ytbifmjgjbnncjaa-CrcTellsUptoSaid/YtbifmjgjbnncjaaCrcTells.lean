/-
  The given statement CrcTellsUptoSaid is proved: whatever the arguments are, if they hold together at most 1048576 values, the law returns true and leaves its input as it was.
-/
import Derived.Test.YtbifmjgjbnncjaaOpen
import Derived.Test.YtbifmjgjbnncjaaCrcJoined
import Derived.WalkKit
import Derived.ProofKit
import Derived.OpenShut
import Derived.ShutString
import Derived.ChangeOld
import Derived.Below
import Derived.JoinedCond
import Derived.Deep.Matrix
namespace Go.Proofs.Ytbifmjgjbnncjaa.crcTells
open Go.ChangeShapes Go.WideShapes Go.ChangeAt Go.RowKit
open Go.ChangeMaps (open_string shut_string)
open Go.Proofs.Ytbifmjgjbnncjaa.mem Go.Proofs.Ytbifmjgjbnncjaa.base Go.Proofs.Ytbifmjgjbnncjaa.crc
set_option linter.unusedVariables false

theorem own : ownKnob Try.prog.godebug = none := by kernel_rfl
theorem laidOut : laidOutB Try.prog = true := by kernel_rfl

/-! ### What the bound says -/
theorem bulk_one {H : Type} (d : DataW H) : 1 ≤ Rows.uptoBulk d := by
  cases d with
  | lit l => cases l <;> simp [Rows.uptoBulk]
  | nil => simp [Rows.uptoBulk]
  | ptr d => simp [Rows.uptoBulk]
  | slice elems spare => simp [Rows.uptoBulk]
  | agg parts => simp [Rows.uptoBulk]
  | iface t d => simp [Rows.uptoBulk]
  | map entries => simp [Rows.uptoBulk]
  | held h => simp [Rows.uptoBulk]
theorem bulk_length {H : Type} (l : List (DataW H)) : l.length ≤ Rows.uptoBulkAll l := by
  induction l with
  | nil => simp [Rows.uptoBulkAll]
  | cons x r ih => have := bulk_one x; simp only [Rows.uptoBulkAll, List.length_cons]; omega
theorem bulk_flat {H : Type} (f : Nat → DataW H) (g : Nat → List UInt8) (l : List Nat) (h : ∀ r ∈ l, (g r).length ≤ Rows.uptoBulk (f r)) : (l.map g).flatten.length ≤ Rows.uptoBulkAll (l.map f) := by
  induction l with
  | nil => simp
  | cons x r ih =>
    have h1 := h x (by simp)
    have h2 := ih (fun y hy => h y (by simp [hy]))
    simp only [List.map_cons, List.flatten_cons, List.length_append, Rows.uptoBulkAll]
    omega

section
variable {H : Type} {enc : TypeId × Value → H} {w : World} {base : Nat} {held : Bool}
theorem parts_of {fuel : Nat} {L : Option Addr} {m d : Nat} {x : DataW H × List MemPlace} (h : DataW.trod enc Try.prog w base (fun _ => true) held fuel 22 [.slice L m d] = some x) (hb : Rows.uptoBulk x.1 ≤ 1048576) :
    ∃ bss : List (List UInt8), bss.length = m ∧ Parts w L bss ∧ bss.flatten.length ≤ 1048576 := by
  rcases Go.Deep.open_int_rows Try.underlying22 Try.underlying23 Try.underlying5 (by kernel_rfl) (by kernel_rfl) h with ⟨hcs, _⟩ | ⟨a, len, cap, A, Ln, C, Z, hcs, _, hl, hm, hx, hrow⟩
  · simp at hcs
    obtain ⟨rfl, rfl, rfl⟩ := hcs
    exact ⟨[], rfl, Parts.nil _ _, by simp⟩
  · simp at hcs
    obtain ⟨rfl, rfl, rfl⟩ := hcs
    have hg : ∀ r, r < m → (((Z r).take (Ln r)).map (fun n => UInt8.ofNat n.toNat)).length = Ln r := by
      intro r hr
      obtain ⟨_, h1, _, h2, _⟩ := hrow r (by omega)
      simp
      omega
    have hbulk : ((List.range m).map (fun r => ((Z r).take (Ln r)).map (fun n => UInt8.ofNat n.toNat))).flatten.length ≤ 1048576 := by
      refine Nat.le_trans (bulk_flat (H := H) (fun r => Go.Deep.intRow .u8 (A r) (Ln r) (Z r)) _ _ (fun r hr => ?_)) (Nat.le_trans ?_ hb)
      · have hr := List.mem_range.1 hr
        obtain ⟨_, h1, _, h2, _, h3, _⟩ := hrow r (by omega)
        rw [hg r hr]
        unfold Go.Deep.intRow
        cases hA : A r with
        | none => have := h3 hA; simp only; omega
        | some a' =>
          simp only [Rows.uptoBulk]
          have := bulk_length (H := H) (lits .u8 ((Z r).take (Ln r)))
          simp [lits] at this ⊢
          omega
      · rw [hx]
        simp only [Rows.uptoBulk]
        omega
    refine ⟨(List.range m).map (fun r => ((Z r).take (Ln r)).map (fun n => UInt8.ofNat n.toNat)), by simp, ⟨(List.range m).map (fun r => .slice (A r) (Ln r) (C r)), by simp, ?_, ?_⟩, hbulk⟩
    · intro i v hv
      rw [List.getElem?_map] at hv
      obtain ⟨r, hr, rfl⟩ := Option.map_eq_some_iff.1 hv
      have hir : i = r ∧ i < m := by
        have := (List.getElem?_eq_some_iff.1 hr).1
        have h2 := (List.getElem?_eq_some_iff.1 hr).2
        simp at this h2
        exact ⟨h2, this⟩
      obtain ⟨rfl, hi⟩ := hir
      exact ⟨a, rfl, by simp, (hrow i (by omega)).1⟩
    · intro i bs hb2
      rw [List.getElem?_map] at hb2
      obtain ⟨r, hr, rfl⟩ := Option.map_eq_some_iff.1 hb2
      have hir : i = r ∧ i < m := by
        have := (List.getElem?_eq_some_iff.1 hr).1
        have h2 := (List.getElem?_eq_some_iff.1 hr).2
        simp at this h2
        exact ⟨h2, this⟩
      obtain ⟨rfl, hi⟩ := hir
      obtain ⟨_, h1, _, h2, hwz, h3, h4⟩ := hrow i (by omega)
      have hlen := hg i hi
      have hle : Ln i ≤ 1048576 := by
        have h5 : (((Z i).take (Ln i)).map (fun n => UInt8.ofNat n.toNat)) ∈ (List.range m).map (fun r => ((Z r).take (Ln r)).map (fun n => UInt8.ofNat n.toNat)) := List.mem_map.2 ⟨i, List.mem_range.2 hi, rfl⟩
        have h6 := (List.sublist_flatten_of_mem h5).length_le
        omega
      refine ⟨A i, C i, by rw [List.getElem?_map, hr, hlen]; rfl, by omega, ?_⟩
      intro j u hu
      have hj : j < Ln i ∧ j < (Z i).length := by
        have := (List.getElem?_eq_some_iff.1 hu).1
        simp at this
        omega
      cases hA : A i with
      | none => have := h3 hA; omega
      | some a' =>
        refine ⟨a', rfl, by simp, ?_⟩
        rw [(h4 a' hA).2 j (by omega)]
        simp only [List.getElem?_map, List.getElem?_take_of_lt hj.1, List.getElem?_eq_getElem hj.2, Option.map_some] at hu
        rw [List.getD_eq_getElem?_getD, List.getElem?_eq_getElem hj.2, ← hu]
        have hw8 := bounds_u8 (hwz (Z i)[j] (List.getElem_mem hj.2))
        simp only [Option.getD_some, B, UInt8.toNat_ofNat']
        congr 2
        omega
end

set_option maxRecDepth 100000 in
set_option maxHeartbeats 1000000 in
theorem walk_many (L b : Option Addr) (m d n c : Nat) (sum : Int) (w : World) (hm : 20 < m) :
    Calls Try.prog 3 #[.slice L m d, .int .i64 sum, .slice b n c] w fun e w' => e = .returned (.bool true) ∧ Below w.heap.size w w' := by
  have HM := hide hm
  clear hm
  go_enter Try.func3, Try.ntmps3
  go_wp2_with fail
  refine (few_long L m d _ HM.out).mono ?_
  rintro e w' ⟨rfl, rfl⟩
  go_wp2_with (go_at_call 8; refine (awake_any _).mono ?_; rintro e w' ⟨rfl, hb⟩)
  all_goals go_ret
  all_goals exact ⟨rfl, hb.below (by simp)⟩

set_option maxRecDepth 100000 in
set_option maxHeartbeats 1000000 in
theorem walk_great (L b : Option Addr) (m d n c : Nat) (sum : Int) (bss : List (List UInt8)) (w : World) (hv : Parts w L bss) (hl : bss.length = m) (hm : m ≤ 20) (hs : bss.flatten.length ≤ 1048576) (h : 2000 < bss.flatten.length ∨ 2000 < n) :
    Calls Try.prog 3 #[.slice L m d, .int .i64 sum, .slice b n c] w fun e w' => e = .returned (.bool true) ∧ Below w.heap.size w w' := by
  have HM := hide hm
  have HV := hide hv
  have HL := hide hl
  have HS := hide hs
  clear hm hv hl hs
  by_cases hf : bss.flatten.length ≤ 2000
  · have hn : 2000 < n := by omega
    have HD := hide (decide_eq_true hf)
    clear hf h
    go_enter Try.func3, Try.ntmps3
    go_wp2_with fail
    refine (few_short L m d bss _ HV.out HL.out HM.out HS.out).mono ?_
    rintro e w1 ⟨rfl, hk⟩
    rw [HD.out]
    have HK := hide hk
    clear hk
    go_wp2_with (go_at_call 8; refine (awake_any _).mono ?_; rintro e w' ⟨rfl, hb⟩)
    all_goals go_ret
    all_goals exact ⟨rfl, (HK.out.trans hb (by simp)).below (by simp)⟩
  · have HD := hide (decide_eq_false hf)
    clear hf h
    go_enter Try.func3, Try.ntmps3
    go_wp2_with fail
    refine (few_short L m d bss _ HV.out HL.out HM.out HS.out).mono ?_
    rintro e w1 ⟨rfl, hk⟩
    rw [HD.out]
    have HK := hide hk
    clear hk
    go_wp2_with (go_at_call 8; refine (awake_any _).mono ?_; rintro e w' ⟨rfl, hb⟩)
    all_goals go_ret
    all_goals exact ⟨rfl, (HK.out.trans hb (by simp)).below (by simp)⟩

set_option maxRecDepth 100000 in
set_option maxHeartbeats 1000000 in
theorem walk_in (L b : Option Addr) (m d n c : Nat) (sum : Int) (bss : List (List UInt8)) (ys : List UInt8) (w : World) (hv : Parts w L bss) (hl : bss.length = m) (hm : m ≤ 20) (hs : bss.flatten.length ≤ 2000) (hv2 : Vals w [] b (ys.map B)) (hl2 : ys.length = n) (hn : n ≤ 2000) :
    Calls Try.prog 3 #[.slice L m d, .int .i64 sum, .slice b n c] w fun e w' => e = .returned (.bool true) ∧ Below w.heap.size w w' := by
  have HM := hide hm
  have HV := hide hv
  have HL := hide hl
  have HS := hide hs
  have HV2 := hide hv2
  have HL2 := hide hl2
  have HD := hide (decide_eq_true hs)
  obtain ⟨N, hN⟩ : ∃ N, bss.flatten.length = N := ⟨_, rfl⟩
  have HN := hide hN
  have hN2 : N ≤ 2000 := by omega
  clear hN
  have HS2 : Hid (bss.flatten.length ≤ 1048576) := hide (by omega)
  clear hm hv hl hs hv2 hl2
  go_enter Try.func3, Try.ntmps3
  go_wp2_with fail
  refine (few_short L m d bss _ HV.out HL.out HM.out HS2.out).mono ?_
  rintro e w1 ⟨rfl, hk⟩
  rw [HD.out]
  have HK := hide hk
  clear hk
  go_wp2_with fail
  refine (sum_any L m d bss _ (HV.out.kept HK.out) HL.out (by have := HM.out; omega)).mono ?_
  rintro e w2 ⟨rfl, rfl⟩
  go_wp2_with fail
  refine (joined_at L m d N bss _ HN.out (HV.out.kept HK.out) HL.out HM.out HS2.out).mono ?_
  rintro e w2 ⟨A, cA, rfl, hvj, hkj⟩
  have HJ := hide hvj
  have HK2 : Hid (Kept [] w w2) := hide (HK.out.trans hkj (by simp))
  clear hvj hkj
  obtain ⟨X, hX⟩ : ∃ X, more 0 bss.flatten = X := ⟨_, rfl⟩
  have HX := hide hX
  rw [hX]
  clear hX
  go_wp2_with fail
  refine (rsum_any A N cA bss.flatten _ HJ.out HN.out (by omega)).mono ?_
  rintro e w3 ⟨rfl, rfl⟩
  rw [HX.out]
  go_wp2_with fail
  refine (more_any sum b n c ys _ (HV2.out.kept HK2.out (by simp)) HL2.out (by omega)).mono ?_
  rintro e w3 ⟨rfl, rfl⟩
  obtain ⟨Y, hY⟩ : ∃ Y, more (sum % 4294967296).toNat ys = Y := ⟨_, rfl⟩
  have HY := hide hY
  rw [hY]
  clear hY
  go_wp2_with fail
  refine (rmore_any sum b n c ys _ (HV2.out.kept HK2.out (by simp)) HL2.out (by omega)).mono ?_
  rintro e w3 ⟨rfl, rfl⟩
  rw [HY.out]
  go_wp2_with (go_at_call 8; refine (awake_any _).mono ?_; rintro e w' ⟨rfl, hb⟩)
  go_ret
  exact ⟨rfl, (HK2.out.trans hb (by simp)).below (by simp)⟩

theorem walk (L b : Option Addr) (m d n c : Nat) (sum : Int) (z : List Int) (bss : List (List UInt8)) (w : World) (hv : Parts w L bss) (hl : bss.length = m) (hs : bss.flatten.length ≤ 1048576) (w2 : IsRow .u8 w b n c z) :
    Calls Try.prog 3 #[.slice L m d, .int .i64 sum, .slice b n c] w fun e w' => e = .returned (.bool true) ∧ Below w.heap.size w w' := by
  obtain ⟨ys, hl2, _, hv2, _⟩ := w2.bytes
  by_cases hm : m ≤ 20
  · by_cases h : bss.flatten.length ≤ 2000 ∧ n ≤ 2000
    · exact walk_in L b m d n c sum bss ys w hv hl hm h.1 hv2 hl2 h.2
    · exact walk_great L b m d n c sum bss w hv hl hm hs (by omega)
  · exact walk_many L b m d n c sum w (by omega)

/-! ### the row's step, as the guide's pages have it -/
set_option maxRecDepth 100000 in
theorem lifted (os : Os) (started : os.Started) (H : Type) (enc : TypeId × Value → H) (F : Stop.Interp) :
    ReturnsInHanded {} Try.checked os 3 .any ((Rows.OpenSpec.upto Rows.crcTellsSpec).pre6 enc Try.prog Try.f3 Rows.crcTellsUptoRow.domain false) (((Rows.OpenSpec.upto Rows.crcTellsSpec).at F).post enc Try.prog Try.f3 false true false false) := by
  refine returnsInHanded_of_cond (C := Try.checked) (s := Rows.OpenSpec.upto Rows.crcTellsSpec) (k := Rows.uptoSmall) rfl own started (by kernel_rfl) Try.func3
    (OpenSpec.witness (enc := enc) (C := Try.checked) (s := Rows.OpenSpec.upto Rows.crcTellsSpec) (k := Rows.uptoSmall) rfl false ⟨#[], #[.slice none 0 0, .int .i64 0, .slice none 0 0], []⟩ 8 (by kernel_rfl) (by kernel_rfl) (by kernel_rfl)
      (x := ([.nil, .lit (.int .i64 0), .nil], [], [])) (by kernel_rfl) rfl (by kernel_rfl)) ?_
  intro W base args ds gs before hval0 hW _ hk _
  have hval : ∀ (j : Nat) t v, Try.f3.params[j]? = some t → args[j]? = some v → Value.okWide Try.prog W .any base t v := hval0
  have hW' := hW
  obtain ⟨p, q, hA0, hV, rfl, hfz, hnd⟩ := hW
  have hA : DataW.TrodAll enc Try.prog W 0 (fun _ => true) true Try.f3.params.toList args.toList ds p := hA0
  rw [Try.params3] at hA hval
  obtain ⟨v0, vs0, d0, ds0, p0, q0, hargs, rfl, rfl, h0, r0⟩ := trodAll_cons hA
  obtain ⟨v1, vs1, d1, ds1, p1, q1, rfl, rfl, rfl, h1, r1⟩ := trodAll_cons r0
  obtain ⟨v2, vs2, d2, ds2, p2, q2, rfl, rfl, rfl, h2, r2⟩ := trodAll_cons r1
  obtain ⟨rfl, rfl, rfl⟩ := trodAll_nil r2
  obtain rfl : args = #[v0, v1, v2] := by cases args; simp_all
  obtain ⟨rfl, rfl⟩ := trodVars_none hV
  have hbulk : Rows.uptoBulk d0 ≤ 1048576 := by
    have h := of_decide_eq_true hk
    simp only [List.cons_append, List.nil_append, Rows.uptoBulkAll] at h
    omega
  obtain ⟨L, m, d, rfl⟩ := okWide_slice Try.underlying22 (hval 0 22 v0 rfl rfl)
  have k0 := h0
  have lt0 : ∀ x ∈ p0, x.block < W.heap.size := by obtain ⟨m, hm⟩ := k0; exact DataW.trod_lt m _ _ _ hm
  obtain ⟨bss, hl, hv, hs⟩ : ∃ bss : List (List UInt8), bss.length = m ∧ Parts W L bss ∧ bss.flatten.length ≤ 1048576 := by
    obtain ⟨fuel, hf⟩ := h0
    exact parts_of hf hbulk
  obtain ⟨a1, rfl, rfl, rfl, w1⟩ := open_int Try.underlying3 (hval 1 3 v1 rfl rfl) h1
  obtain ⟨a2, len2, cap2, rfl⟩ := okWide_slice Try.underlying23 (hval 2 23 v2 rfl rfl)
  have k2 := h2
  have lt2 : ∀ x ∈ p2, x.block < W.heap.size := by obtain ⟨m, hm⟩ := k2; exact DataW.trod_lt m _ _ _ hm
  obtain ⟨z2, w2⟩ : ∃ zs, IsRow .u8 W a2 len2 cap2 zs := by
    obtain ⟨fuel, hf⟩ := h2
    rcases open_ints Try.underlying23 Try.underlying5 (by kernel_rfl) hf with ⟨hcs, _⟩ | ⟨x, l, c, zs, hcs, _, hl, hm, hz, _, hcell, hwz⟩
    · simp [Value.cells] at hcs
      obtain ⟨rfl, rfl, rfl⟩ := hcs
      exact ⟨[], .inl ⟨rfl, rfl, rfl, rfl⟩⟩
    · simp [Value.cells] at hcs
      obtain ⟨rfl, rfl, rfl⟩ := hcs
      exact ⟨zs, .inr ⟨_, rfl, hl, hm, by simpa using hz, hcell, hwz⟩⟩
  clear hA0 hval0
  refine (walk L a2 m d len2 cap2 a1 z2 bss W hv hl hs w2).mono fun e W' ⟨he, bel⟩ => ?_
  subst he
  exact ⟨_, rfl, _, _, _, [], _, [], hW', trodAll_mk1 (shut_bool Try.underlying4 _), (trodAll_cons_mk (Below.trod laidOut (by kernel_rfl) (of_decide_eq_true (by kernel_rfl)) k0 bel lt0) (trodAll_cons_mk (shut_int Try.underlying3 w1) (trodAll_cons_mk (Below.trod laidOut (by kernel_rfl) (of_decide_eq_true (by kernel_rfl)) k2 bel lt2) trodAll_mk0))), rfl, bel.frame _, fun h => by cases h⟩

theorem over : Rows.crcTellsUptoRow.holds Try.pinned (Rows.OpenSpec.upto Rows.crcTellsSpec) :=
  OpenClaim.holds_of_cond 3 Try.f3 rfl rfl rfl rfl rfl rfl rfl ⟨rfl, rfl, rfl, rfl, rfl⟩ rfl rfl rfl rfl rfl (by kernel_rfl) Try.func3 (by kernel_rfl)
    (of_decide_eq_true (by kernel_rfl)) (by unfold Func.isWrapper; first | (rw [if_pos (by decide +kernel)]; kernel_rfl) | (rw [if_neg (by decide +kernel)]; exact ⟨rfl, rfl⟩))
    (fun os started H enc _ F => lifted os started H enc F)

/-- The statement. -/
theorem proved : Rows.CrcTellsUptoSaid := over
#print axioms proved
end Go.Proofs.Ytbifmjgjbnncjaa.crcTells
