/-
  The given statement ScanBreaksSaid is proved: whatever the arguments are, the law returns true and leaves its input as it was. No conditions.
-/
import Derived.Test.YtjbdjdlmpcbakaaGreatQScanBreaksW
import Derived.Test.YtjbdjdlmpcbakaaGreatQShapes
import Derived.Test.YtjbdjdlmpcbakaaGreatQOpen
import Derived.WalkKit
import Derived.ProofKit
import Derived.OpenShut
import Derived.ShutString
import Derived.ChangeOld
import Derived.Below
namespace Go.Proofs.YtjbdjdlmpcbakaaGreat.scanBreaks
open Go.ChangeShapes Go.WideShapes Go.ChangeAt Go.RowKit
open Go.ChangeMaps (open_string shut_string)
open Go.Proofs.YtjbdjdlmpcbakaaGreat.mem Go.Proofs.YtjbdjdlmpcbakaaGreat.base Go.Proofs.YtjbdjdlmpcbakaaGreat.sc
set_option linter.unusedVariables false
theorem own : ownKnob Tryz.prog.godebug = none := by kernel_rfl
theorem laidOut : laidOutB Tryz.prog = true := by kernel_rfl

set_option maxRecDepth 100000 in
theorem breaks_out (A : Option Addr) (n c : Nat) (which at_ : Int) (w : World) (h : n < 1 ∨ 8 < n) :
    Calls Tryz.prog 4 #[.slice A n c, .int .i64 which, .int .i64 at_] w fun e w' => e = .returned (.bool true) ∧ Kept [] w w' := by
  rcases h with h | h
  · have h1 : (n : Int) < 1 := by omega
    clear h
    go_enter Tryz.func4, Tryz.ntmps4
    go_wp2_with fail
    refine (awake_any _).mono ?_
    rintro e w1 ⟨rfl, hk⟩
    go_wp2
    go_ret
    exact ⟨rfl, hk⟩
  · have h1 : (8 : Int) < n := by omega
    have h2 : ¬ (n : Int) < 1 := by omega
    clear h
    go_enter Tryz.func4, Tryz.ntmps4
    go_wp2_with fail
    refine (awake_any _).mono ?_
    rintro e w1 ⟨rfl, hk⟩
    go_wp2
    go_ret
    exact ⟨rfl, hk⟩
set_option maxRecDepth 100000 in
set_option maxHeartbeats 2000000 in
theorem walk (a0 : Option Addr) (len0 cap0 : Nat) (kss : List (List Int)) (a1 a2 : Int) (w : World) (w0 : kss.length = len0 ∧ KsAny w a0 kss) (w1 : (Lit.int .i64 a1).wf = true) (w2 : (Lit.int .i64 a2).wf = true) :
    Calls Tryz.prog 4 #[.slice a0 len0 cap0, .int .i64 a1, .int .i64 a2] w fun e w' => e = .returned (.bool true) ∧ Below w.heap.size w w' := by
  by_cases h1 : len0 < 1
  · exact (breaks_out a0 len0 cap0 a1 a2 w (.inl h1)).mono fun _ _ ⟨h, hk⟩ => ⟨h, hk.below (by simp)⟩
  by_cases h8 : len0 ≤ 8
  · exact (breaks_in a0 len0 cap0 kss a1 a2 w w0.2 w0.1 (by omega) h8).mono fun _ _ ⟨h, hk⟩ => ⟨h, hk.below (by simp)⟩
  · exact (breaks_out a0 len0 cap0 a1 a2 w (.inr (by omega))).mono fun _ _ ⟨h, hk⟩ => ⟨h, hk.below (by simp)⟩

/-! ### the row's step, as the guide's skeleton has it -/
set_option maxRecDepth 100000 in
theorem lifted (os : Os) (started : os.Started) (H : Type) (enc : TypeId × Value → H) :
    ReturnsInHanded {} Tryz.checked os 4 .any (Rows.scanBreaksSpec.pre6 enc Tryz.prog Tryz.f4 Rows.scanBreaksRow.domain false) (Rows.scanBreaksSpec.post enc Tryz.prog Tryz.f4 false true false false) := by
  refine returnsInHanded_of_change (C := Tryz.checked) own started (by kernel_rfl) Tryz.func4
    (ChangeSpec.witness6 (enc := enc) (C := Tryz.checked) false ⟨#[], #[.slice none 0 0, .int .i64 0, .int .i64 0], []⟩ 8 (by kernel_rfl) (by kernel_rfl) (by kernel_rfl) (by kernel_rfl)) ?_
  intro W base args ds gs before hval0 hW hcnd _
  have hval : ∀ (j : Nat) t v, Tryz.f4.params[j]? = some t → args[j]? = some v → Value.okWide Tryz.prog W .any base t v := hval0
  have hW' := hW
  obtain ⟨p, q, hA0, hV, rfl, hfz, hnd⟩ := hW
  have hA : DataW.TrodAll enc Tryz.prog W 0 (fun _ => true) true Tryz.f4.params.toList args.toList ds p := hA0
  rw [Tryz.params4] at hA hval
  obtain ⟨v0, vs0, d0, ds0, p0, q0, hargs, rfl, rfl, h0, r0⟩ := trodAll_cons hA
  obtain ⟨v1, vs1, d1, ds1, p1, q1, rfl, rfl, rfl, h1, r1⟩ := trodAll_cons r0
  obtain ⟨v2, vs2, d2, ds2, p2, q2, rfl, rfl, rfl, h2, r2⟩ := trodAll_cons r1
  obtain ⟨rfl, rfl, rfl⟩ := trodAll_nil r2
  obtain rfl : args = #[v0, v1, v2] := by cases args; simp_all
  obtain ⟨rfl, rfl⟩ := trodVars_none hV
  obtain ⟨a0, len0, cap0, rfl⟩ := okWide_slice Tryz.underlying62 (hval 0 62 v0 rfl rfl)
  have k0 := h0
  have lt0 : ∀ x ∈ p0, x.block < W.heap.size := by obtain ⟨m, hm⟩ := k0; exact DataW.trod_lt m _ _ _ hm
  obtain ⟨kss, hkl, hks⟩ : ∃ kss : List (List Int), kss.length = len0 ∧ KsAny W a0 kss := by
    obtain ⟨fuel, hf⟩ := h0
    obtain ⟨L, m, dd, kss, he, h1, h2⟩ := kss_of (v := .slice a0 len0 cap0) (by simpa [Value.cells] using hf)
    injection he with e1 e2 e3
    subst e1 e2
    exact ⟨kss, h1, h2⟩
  obtain ⟨a1, rfl, rfl, rfl, w1⟩ := open_int Tryz.underlying3 (hval 1 3 v1 rfl rfl) h1
  obtain ⟨a2, rfl, rfl, rfl, w2⟩ := open_int Tryz.underlying3 (hval 2 3 v2 rfl rfl) h2
  clear hA0 hval0
  refine (walk a0 len0 cap0 kss a1 a2 W ⟨hkl, hks⟩ w1 w2).mono fun e W' ⟨he, bel⟩ => ?_
  subst he
  exact ⟨_, rfl, _, _, _, [], _, [], hW', trodAll_mk1 (shut_bool Tryz.underlying4 _), (trodAll_cons_mk (Below.trod laidOut (by kernel_rfl) (of_decide_eq_true (by kernel_rfl)) k0 bel lt0) (trodAll_cons_mk (shut_int Tryz.underlying3 w1) (trodAll_cons_mk (shut_int Tryz.underlying3 w2) trodAll_mk0))), rfl, bel.frame _, fun h => by cases h⟩

theorem over : Rows.scanBreaksRow.holds Tryz.pinned (OpenSpec.ofChange Rows.scanBreaksSpec) :=
  OpenClaim.holds_of_wide 4 Tryz.f4 rfl rfl rfl rfl rfl rfl rfl ⟨rfl, rfl, rfl, rfl, rfl⟩ rfl rfl rfl rfl rfl (by kernel_rfl) Tryz.func4 (by kernel_rfl)
    (of_decide_eq_true (by kernel_rfl)) (by unfold Func.isWrapper; first | (rw [if_pos (by decide +kernel)]; kernel_rfl) | (rw [if_neg (by decide +kernel)]; exact ⟨rfl, rfl⟩))
    (fun os started H enc _ => lifted os started H enc)

/-- The statement. -/
theorem proved : Rows.ScanBreaksSaid := over
#print axioms proved
end Go.Proofs.YtjbdjdlmpcbakaaGreat.scanBreaks
