/-
  The given statement ItemReadsSaid is proved: whatever the arguments are, the law returns true and leaves its input as it was. No conditions.
-/
import Derived.Test.YtbghkfjjmgmjmaaItemAwake
import Derived.Test.YtbghkfjjmgmjmaaItemOf
import Derived.Test.YtbghkfjjmgmjmaaOpen
import Derived.WalkKit
import Derived.ProofKit
import Derived.OpenShut
import Derived.ShutString
import Derived.ChangeOld
import Derived.Below
namespace Go.Proofs.Ytbghkfjjmgmjmaa.itemReads
open Go.ChangeShapes Go.WideShapes Go.ChangeAt Go.RowKit
open Go.ChangeMaps (open_string shut_string)
open Go.Proofs.Ytbghkfjjmgmjmaa.mem Go.Proofs.Ytbghkfjjmgmjmaa.base Go.Proofs.Ytbghkfjjmgmjmaa.item Go.Proofs.Ytbghkfjjmgmjmaa.row
set_option linter.unusedVariables false

theorem own : ownKnob Try.prog.godebug = none := by kernel_rfl
theorem laidOut : laidOutB Try.prog = true := by kernel_rfl

set_option maxRecDepth 100000 in
theorem walk_long (A : Option Addr) (n c : Nat) (w : World) (h : 100 < n) :
    Calls Try.prog 4 #[.slice A n c] w fun e w' => e = .returned (.bool true) ∧ Below w.heap.size w w' := by
  go_enter Try.func4, Try.ntmps4
  go_wp2_with fail
  refine (awake_any _).mono ?_
  rintro e W2 ⟨rfl, hk⟩
  have HK2 := hide hk
  clear hk
  go_wp2
  go_ret
  exact ⟨rfl, HK2.out.below (by simp)⟩

set_option maxRecDepth 100000 in
theorem walk_in (A : Option Addr) (n c : Nat) (bs : List UInt8) (w : World) (hv : Vals w [] A (bs.map B)) (hl : bs.length = n) (hnc : n ≤ c) (hA : A = none → c = 0) (hn : n ≤ 100) :
    Calls Try.prog 4 #[.slice A n c] w fun e w' => e = .returned (.bool true) ∧ Below w.heap.size w w' := by
  have HV := hide hv
  have HL := hide hl
  have HA := hide hA
  obtain ⟨l, er, hd⟩ : ∃ l er, item.decode bs = (l, er) := ⟨_, _, rfl⟩
  have hll : l.length ≤ 100 := by
    unfold item.decode at hd
    split at hd
    · rw [Prod.mk.injEq] at hd
      rw [← hd.1, itemsOf_len]
      omega
    · rw [Prod.mk.injEq] at hd
      rw [← hd.1]
      simp
  have HD := hide hd
  clear hv hl hA hd
  go_enter Try.func4, Try.ntmps4
  go_wp2_with fail
  refine (decode_any A n c bs _ HV.out HL.out HA.out (by omega)).mono ?_
  rintro e w1 ⟨L1, n1, c1, rfl, hn1, _, _, hi1, hk⟩
  rw [HD.out] at hn1 hi1 ⊢
  have HK1 := hide hk
  have HN1 := hide hn1
  have HX1 := hide hi1
  clear hk hn1 hi1
  go_wp2_with fail
  refine (rof_any A n c bs _ (HV.out.kept HK1.out (by simp)) HL.out hnc (by omega)).mono ?_
  rintro e w2 ⟨L2, n2, c2, rfl, hn2, hi2, hk⟩
  rw [HD.out] at hn2 hi2 ⊢
  have HK2 := hide (HK1.out.trans hk (by simp))
  have HN2 := hide hn2
  have HX2 := hide (HX1.out.kept hk (by simp))
  have HY2 := hide hi2
  clear hk hn2 hi2
  go_wp2_with fail
  refine (items_any L1 L2 n1 n2 c1 c2 l l _ HN1.out.symm HN2.out.symm HX2.out HY2.out (by have := HN1.out; omega)).mono ?_
  rintro e w3 ⟨rfl, hk⟩
  rw [show decide (l = l) = true by simp]
  have HK3 := hide (HK2.out.trans hk (by simp))
  clear hk
  go_wp2_with fail
  refine (awake_any _).mono ?_
  rintro e w4 ⟨rfl, hk⟩
  have HK4 := hide (HK3.out.trans hk (by simp))
  clear hk
  go_wp2
  go_ret
  exact ⟨rfl, HK4.out.below (by simp)⟩

theorem walk (a0 : Option Addr) (len0 cap0 : Nat) (z0 : List Int) (w : World) (w0 : IsRow .u8 w a0 len0 cap0 z0) :
    Calls Try.prog 4 #[.slice a0 len0 cap0] w fun e w' => e = .returned (.bool true) ∧ Below w.heap.size w w' := by
  obtain ⟨bs, hl, hnc, hv, hA⟩ := w0.bytes
  by_cases h : len0 ≤ 100
  · exact walk_in a0 len0 cap0 bs w hv hl hnc hA h
  · exact walk_long a0 len0 cap0 w (by omega)

/-! ### the row's step, as the guide's skeleton has it -/
set_option maxRecDepth 100000 in
theorem lifted (os : Os) (started : os.Started) (H : Type) (enc : TypeId × Value → H) :
    ReturnsInHanded {} Try.checked os 4 .any (Rows.itemReadsSpec.pre6 enc Try.prog Try.f4 Rows.itemReadsRow.domain false) (Rows.itemReadsSpec.post enc Try.prog Try.f4 false true false false) := by
  refine returnsInHanded_of_change (C := Try.checked) own started (by kernel_rfl) Try.func4
    (ChangeSpec.witness6 (enc := enc) (C := Try.checked) false ⟨#[], #[.slice none 0 0], []⟩ 8 (by kernel_rfl) (by kernel_rfl) (by kernel_rfl) (by kernel_rfl)) ?_
  intro W base args ds gs before hval0 hW hcnd _
  have hval : ∀ (j : Nat) t v, Try.f4.params[j]? = some t → args[j]? = some v → Value.okWide Try.prog W .any base t v := hval0
  have hW' := hW
  obtain ⟨p, q, hA0, hV, rfl, hfz, hnd⟩ := hW
  have hA : DataW.TrodAll enc Try.prog W 0 (fun _ => true) true Try.f4.params.toList args.toList ds p := hA0
  rw [Try.params4] at hA hval
  obtain ⟨v0, vs0, d0, ds0, p0, q0, hargs, rfl, rfl, h0, r0⟩ := trodAll_cons hA
  obtain ⟨rfl, rfl, rfl⟩ := trodAll_nil r0
  obtain rfl : args = #[v0] := by cases args; simp_all
  obtain ⟨rfl, rfl⟩ := trodVars_none hV
  obtain ⟨a0, len0, cap0, rfl⟩ := okWide_slice Try.underlying27 (hval 0 27 v0 rfl rfl)
  have k0 := h0
  have lt0 : ∀ x ∈ p0, x.block < W.heap.size := by obtain ⟨m, hm⟩ := k0; exact DataW.trod_lt m _ _ _ hm
  obtain ⟨z0, w0⟩ : ∃ zs, IsRow .u8 W a0 len0 cap0 zs := by
    obtain ⟨fuel, hf⟩ := h0
    rcases open_ints Try.underlying27 Try.underlying5 (by kernel_rfl) hf with ⟨hcs, _⟩ | ⟨x, l, c, zs, hcs, _, hl, hm, hz, _, hcell, hwz⟩
    · simp [Value.cells] at hcs
      obtain ⟨rfl, rfl, rfl⟩ := hcs
      exact ⟨[], .inl ⟨rfl, rfl, rfl, rfl⟩⟩
    · simp [Value.cells] at hcs
      obtain ⟨rfl, rfl, rfl⟩ := hcs
      exact ⟨zs, .inr ⟨_, rfl, hl, hm, by simpa using hz, hcell, hwz⟩⟩
  clear hA0 hval0
  refine (walk a0 len0 cap0 z0 W w0).mono fun e W' ⟨he, bel⟩ => ?_
  subst he
  exact ⟨_, rfl, _, _, _, [], _, [], hW', trodAll_mk1 (shut_bool Try.underlying4 _), (trodAll_cons_mk (Below.trod laidOut (by kernel_rfl) (of_decide_eq_true (by kernel_rfl)) k0 bel lt0) trodAll_mk0), rfl, bel.frame _, fun h => by cases h⟩

theorem over : Rows.itemReadsRow.holds Try.pinned (OpenSpec.ofChange Rows.itemReadsSpec) :=
  OpenClaim.holds_of_wide 4 Try.f4 rfl rfl rfl rfl rfl rfl rfl ⟨rfl, rfl, rfl, rfl, rfl⟩ rfl rfl rfl rfl rfl (by kernel_rfl) Try.func4 (by kernel_rfl)
    (of_decide_eq_true (by kernel_rfl)) (by unfold Func.isWrapper; first | (rw [if_pos (by decide +kernel)]; kernel_rfl) | (rw [if_neg (by decide +kernel)]; exact ⟨rfl, rfl⟩))
    (fun os started H enc _ => lifted os started H enc)

/-- The statement. -/
theorem proved : Rows.ItemReadsSaid := over
#print axioms proved
end Go.Proofs.Ytbghkfjjmgmjmaa.itemReads

