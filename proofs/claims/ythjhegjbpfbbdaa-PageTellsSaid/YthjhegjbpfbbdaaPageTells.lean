/-
  The given statement PageTellsSaid is proved: whatever the arguments are, the law returns true and leaves its input as it was. No conditions.
-/
import Derived.Test.YthjhegjbpfbbdaaPageROf
import Derived.Test.YthjhegjbpfbbdaaPageAwake
import Derived.Test.YthjhegjbpfbbdaaPageAlike
import Derived.Test.YthjhegjbpfbbdaaOpen
import Derived.Test.YthjhegjbpfbbdaaShapes
import Derived.WalkKit
import Derived.ProofKit
import Derived.OpenShut
import Derived.ShutString
import Derived.ChangeOld
import Derived.Below
namespace Go.Proofs.Ythjhegjbpfbbdaa.pageTells
open Go.ChangeShapes Go.WideShapes Go.ChangeAt Go.RowKit
open Go.ChangeMaps (open_string shut_string)
open Go.Proofs.Ythjhegjbpfbbdaa.mem Go.Proofs.Ythjhegjbpfbbdaa.base Go.Proofs.Ythjhegjbpfbbdaa.pg
set_option linter.unusedVariables false

theorem own : ownKnob Try.prog.godebug = none := by kernel_rfl
theorem laidOut : laidOutB Try.prog = true := by kernel_rfl

theorem same_any (A1 A2 : Option Addr) (n1 n2 c1 c2 : Nat) (xs : List UInt8) (w : World) (hn1 : n1 = xs.length) (hn2 : n2 = xs.length) (h1 : Vals w [] A1 (xs.map B)) (h2 : Vals w [] A2 (xs.map B)) (hm : xs.length ≤ 64) :
    Calls Try.prog 11 #[.slice A1 n1 c1, .slice A2 n2 c2] w fun e w' => e = .returned (.bool true) ∧ Kept [] w w' :=
  (base.bytes_any A1 A2 n1 n2 c1 c2 xs xs w hn1.symm hn2.symm h1 h2 (by omega)).mono fun e w' ⟨h, k, hw⟩ => ⟨by rw [h]; simp, by subst hw; exact (Kept.refl [] w).drewN k⟩
theorem alike_any (A1 A2 : Option Addr) (n1 n2 c1 c2 : Nat) (xs : List Int) (w : World) (hn1 : xs.length = n1) (hn2 : xs.length = n2) (h1 : Vals w [] A1 (xs.map I)) (h2 : Vals w [] A2 (xs.map I)) (hm : xs.length ≤ 15) :
    Calls Try.prog 12 #[.slice A1 n1 c1, .slice A2 n2 c2] w fun e w' => e = .returned (.bool true) ∧ Kept [] w w' :=
  (ints_any A1 A2 n1 n2 c1 c2 xs xs w hn1 hn2 h1 h2 (by omega)).mono fun e w' ⟨h, k⟩ => ⟨by rw [h]; simp, k⟩

set_option maxRecDepth 100000 in
theorem walk_first (A1 A2 : Option Addr) (n1 c1 n2 c2 : Nat) (w : World) (h : 40 < n1) :
    Calls Try.prog 3 #[.slice A1 n1 c1, .slice A2 n2 c2] w fun e w' => e = .returned (.bool true) ∧ Below w.heap.size w w' := by
  have g1 : (40 : Int) < n1 := by omega
  go_enter Try.func3, Try.ntmps3
  go_wp2_with fail
  refine (awake_any _).mono ?_
  rintro e W2 ⟨rfl, hk⟩
  have HK2 := hide hk
  clear hk
  go_wp2
  go_ret
  exact ⟨rfl, HK2.out.below (by simp)⟩

set_option maxRecDepth 100000 in
theorem walk_second (A1 A2 : Option Addr) (n1 c1 n2 c2 : Nat) (w : World) (h1 : n1 ≤ 40) (h : 200 < n2) :
    Calls Try.prog 3 #[.slice A1 n1 c1, .slice A2 n2 c2] w fun e w' => e = .returned (.bool true) ∧ Below w.heap.size w w' := by
  have g1 : ¬ (40 : Int) < n1 := by omega
  have g2 : (200 : Int) < n2 := by omega
  go_enter Try.func3, Try.ntmps3
  go_wp2_with fail
  refine (awake_any _).mono ?_
  rintro e W2 ⟨rfl, hk⟩
  have HK2 := hide hk
  clear hk
  go_wp2
  go_ret
  exact ⟨rfl, HK2.out.below (by simp)⟩

set_option maxRecDepth 100000 in
set_option maxHeartbeats 1000000 in
theorem walk_in (A1 A2 : Option Addr) (n1 c1 n2 c2 : Nat) (l : List Int) (bs : List UInt8) (w : World) (h1 : n1 ≤ 40) (h2 : n2 ≤ 200) (hv : Vals w [] A1 (l.map I)) (hl : l.length = n1) (hb : Vals w [] A2 (bs.map B)) (hbl : bs.length = n2) (hnc : n2 ≤ c2) (hA : A2 = none → c2 = 0) :
    Calls Try.prog 3 #[.slice A1 n1 c1, .slice A2 n2 c2] w fun e w' => e = .returned (.bool true) ∧ Below w.heap.size w w' := by
  have g1 : ¬ (40 : Int) < n1 := by omega
  have g2 : ¬ (200 : Int) < n2 := by omega
  obtain ⟨xs, er, hx⟩ : ∃ xs er, encode l = (xs, er) := ⟨_, _, rfl⟩
  obtain ⟨u, eu, hu⟩ : ∃ u eu, pg.decode bs = (u, eu) := ⟨_, _, rfl⟩
  have hxl : xs.length ≤ 64 := by have := encode_len l; rwa [hx] at this
  have hul : u.length ≤ 15 := by have := decode_fst bs; rwa [hu] at this
  have HV := hide hv
  have HL := hide hl
  have HB := hide hb
  have HBL := hide hbl
  have HA := hide hA
  have HX := hide hx
  have HU := hide hu
  have HXL := hide hxl
  have HUL := hide hul
  clear hv hl hb hbl hA hx hu hxl hul
  go_enter Try.func3, Try.ntmps3
  go_wp2_with fail
  refine (encode_any A1 n1 c1 l _ HV.out HL.out).mono ?_
  rintro e W1 ⟨A3, n3, c3, rfl, hn, hnb, hk⟩
  rw [HX.out] at hn hnb ⊢
  have HK1 := hide hk
  have HN1 := hide hn
  have HX1 := hide (hnb.vals (S := []) (by simp))
  have HV1 := hide (HV.out.kept hk (by simp))
  clear hk hn hnb
  go_wp2_with fail
  refine (rbytes_any A1 n1 c1 l _ HV1.out HL.out).mono ?_
  rintro e W2 ⟨A4, n4, c4, rfl, hn, hnb, hk⟩
  rw [HX.out] at hn hnb ⊢
  have HK2 := hide (HK1.out.trans hk (by simp))
  have HN2 := hide hn
  have HX2 := hide (HX1.out.kept hk (by simp))
  have HY2 := hide hnb
  have HB2 := hide (HB.out.kept HK2.out (by simp))
  clear hk hn hnb HK1 HX1 HV1
  go_wp2_with fail
  refine (decode_any A2 n2 c2 bs _ HB2.out HBL.out HA.out (by omega)).mono ?_
  rintro e W3 ⟨A5, n5, c5, rfl, hn, hv, hk⟩
  have hv0 := hv [] (by simp)
  rw [HU.out] at hn hv0 ⊢
  have HK3 := hide (HK2.out.trans hk (by simp))
  have HN3 := hide hn
  have HX3 := hide (HX2.out.kept hk (by simp))
  have HY3 := hide (HY2.out.kept hk (by simp))
  have HB3 := hide (HB2.out.kept hk (by simp))
  have HU3 := hide hv0
  clear hk hn hv hv0 HK2 HX2 HY2 HB2
  go_wp2_with fail
  refine (rof_any A2 n2 c2 bs _ HB3.out HBL.out hnc).mono ?_
  rintro e W4 ⟨A6, n6, c6, rfl, hn, hv, hk⟩
  rw [HU.out] at hn hv ⊢
  have HK4 := hide (HK3.out.trans hk (by simp))
  have HN4 := hide hn
  have HX4 := hide (HX3.out.kept hk (by simp))
  have HY4 := hide (HY3.out.kept hk (by simp))
  have HU4 := hide (HU3.out.kept hk (by simp))
  have HT4 := hide hv
  clear hk hn hv HK3 HX3 HY3 HB3 HU3
  go_wp2_with fail
  refine (same_any A3 A4 n3 n4 c3 c4 xs _ HN1.out HN2.out HX4.out HY4.out HXL.out).mono ?_
  rintro e W5 ⟨rfl, hk⟩
  have HK5 := hide (HK4.out.trans hk (by simp))
  have HU5 := hide (HU4.out.kept hk (by simp))
  have HT5 := hide (HT4.out.kept hk (by simp))
  clear hk HK4 HX4 HY4 HU4 HT4
  go_wp2_with fail
  refine (alike_any A5 A6 n5 n6 c5 c6 u _ HN3.out HN4.out HU5.out HT5.out HUL.out).mono ?_
  rintro e W6 ⟨rfl, hk⟩
  have HK6 := hide (HK5.out.trans hk (by simp))
  clear hk HK5 HU5 HT5
  go_wp2_with fail
  refine (awake_any _).mono ?_
  rintro e W7 ⟨rfl, hk⟩
  have HK7 := hide (HK6.out.trans hk (by simp))
  clear hk
  go_wp2
  go_ret
  exact ⟨rfl, HK7.out.below (by simp)⟩

theorem walk (a0 : Option Addr) (len0 cap0 : Nat) (z0 : List Int) (a1 : Option Addr) (len1 cap1 : Nat) (z1 : List Int) (w : World) (w0 : IsRow .i64 w a0 len0 cap0 z0) (w1 : IsRow .u8 w a1 len1 cap1 z1) :
    Calls Try.prog 3 #[.slice a0 len0 cap0, .slice a1 len1 cap1] w fun e w' => e = .returned (.bool true) ∧ Below w.heap.size w w' := by
  obtain ⟨l, hl, hlc, hv, _⟩ := w0.ints
  obtain ⟨bs, hbl, hnc, hb, hA⟩ := w1.bytes
  by_cases h1 : len0 ≤ 40
  · by_cases h2 : len1 ≤ 200
    · exact walk_in a0 a1 len0 cap0 len1 cap1 l bs w h1 h2 hv hl hb hbl hnc hA
    · exact walk_second a0 a1 len0 cap0 len1 cap1 w h1 (by omega)
  · exact walk_first a0 a1 len0 cap0 len1 cap1 w (by omega)

/-! ### the row's step, as the guide's skeleton has it -/
set_option maxRecDepth 100000 in
theorem lifted (os : Os) (started : os.Started) (H : Type) (enc : TypeId × Value → H) :
    ReturnsInHanded {} Try.checked os 3 .any (Rows.pageTellsSpec.pre6 enc Try.prog Try.f3 Rows.pageTellsRow.domain false) (Rows.pageTellsSpec.post enc Try.prog Try.f3 false true false false) := by
  refine returnsInHanded_of_change (C := Try.checked) own started (by kernel_rfl) Try.func3
    (ChangeSpec.witness6 (enc := enc) (C := Try.checked) false ⟨#[], #[.slice none 0 0, .slice none 0 0], []⟩ 8 (by kernel_rfl) (by kernel_rfl) (by kernel_rfl) (by kernel_rfl)) ?_
  intro W base args ds gs before hval0 hW hcnd _
  have hval : ∀ (j : Nat) t v, Try.f3.params[j]? = some t → args[j]? = some v → Value.okWide Try.prog W .any base t v := hval0
  have hW' := hW
  obtain ⟨p, q, hA0, hV, rfl, hfz, hnd⟩ := hW
  have hA : DataW.TrodAll enc Try.prog W 0 (fun _ => true) true Try.f3.params.toList args.toList ds p := hA0
  rw [Try.params3] at hA hval
  obtain ⟨v0, vs0, d0, ds0, p0, q0, hargs, rfl, rfl, h0, r0⟩ := trodAll_cons hA
  obtain ⟨v1, vs1, d1, ds1, p1, q1, rfl, rfl, rfl, h1, r1⟩ := trodAll_cons r0
  obtain ⟨rfl, rfl, rfl⟩ := trodAll_nil r1
  obtain rfl : args = #[v0, v1] := by cases args; simp_all
  obtain ⟨rfl, rfl⟩ := trodVars_none hV
  obtain ⟨a0, len0, cap0, rfl⟩ := okWide_slice Try.underlying22 (hval 0 22 v0 rfl rfl)
  have k0 := h0
  have lt0 : ∀ x ∈ p0, x.block < W.heap.size := by obtain ⟨m, hm⟩ := k0; exact DataW.trod_lt m _ _ _ hm
  obtain ⟨z0, w0⟩ : ∃ zs, IsRow .i64 W a0 len0 cap0 zs := by
    obtain ⟨fuel, hf⟩ := h0
    rcases open_ints Try.underlying22 Try.underlying3 (by kernel_rfl) hf with ⟨hcs, _⟩ | ⟨x, l, c, zs, hcs, _, hl, hm, hz, _, hcell, hwz⟩
    · simp [Value.cells] at hcs
      obtain ⟨rfl, rfl, rfl⟩ := hcs
      exact ⟨[], .inl ⟨rfl, rfl, rfl, rfl⟩⟩
    · simp [Value.cells] at hcs
      obtain ⟨rfl, rfl, rfl⟩ := hcs
      exact ⟨zs, .inr ⟨_, rfl, hl, hm, by simpa using hz, hcell, hwz⟩⟩
  obtain ⟨a1, len1, cap1, rfl⟩ := okWide_slice Try.underlying23 (hval 1 23 v1 rfl rfl)
  have k1 := h1
  have lt1 : ∀ x ∈ p1, x.block < W.heap.size := by obtain ⟨m, hm⟩ := k1; exact DataW.trod_lt m _ _ _ hm
  obtain ⟨z1, w1⟩ : ∃ zs, IsRow .u8 W a1 len1 cap1 zs := by
    obtain ⟨fuel, hf⟩ := h1
    rcases open_ints Try.underlying23 Try.underlying5 (by kernel_rfl) hf with ⟨hcs, _⟩ | ⟨x, l, c, zs, hcs, _, hl, hm, hz, _, hcell, hwz⟩
    · simp [Value.cells] at hcs
      obtain ⟨rfl, rfl, rfl⟩ := hcs
      exact ⟨[], .inl ⟨rfl, rfl, rfl, rfl⟩⟩
    · simp [Value.cells] at hcs
      obtain ⟨rfl, rfl, rfl⟩ := hcs
      exact ⟨zs, .inr ⟨_, rfl, hl, hm, by simpa using hz, hcell, hwz⟩⟩
  clear hA0 hval0
  refine (walk a0 len0 cap0 z0 a1 len1 cap1 z1 W w0 w1).mono fun e W' ⟨he, bel⟩ => ?_
  subst he
  exact ⟨_, rfl, _, _, _, [], _, [], hW', trodAll_mk1 (shut_bool Try.underlying4 _), (trodAll_cons_mk (Below.trod laidOut (by kernel_rfl) (of_decide_eq_true (by kernel_rfl)) k0 bel lt0) (trodAll_cons_mk (Below.trod laidOut (by kernel_rfl) (of_decide_eq_true (by kernel_rfl)) k1 bel lt1) trodAll_mk0)), rfl, bel.frame _, fun h => by cases h⟩

theorem over : Rows.pageTellsRow.holds Try.pinned (OpenSpec.ofChange Rows.pageTellsSpec) :=
  OpenClaim.holds_of_wide 3 Try.f3 rfl rfl rfl rfl rfl rfl rfl ⟨rfl, rfl, rfl, rfl, rfl⟩ rfl rfl rfl rfl rfl (by kernel_rfl) Try.func3 (by kernel_rfl)
    (of_decide_eq_true (by kernel_rfl)) (by unfold Func.isWrapper; first | (rw [if_pos (by decide +kernel)]; kernel_rfl) | (rw [if_neg (by decide +kernel)]; exact ⟨rfl, rfl⟩))
    (fun os started H enc _ => lifted os started H enc)

/-- The statement. -/
theorem proved : Rows.PageTellsSaid := over
#print axioms proved
end Go.Proofs.Ythjhegjbpfbbdaa.pageTells

