/-
  The given statement CrcTurnedSaid is proved: whatever the arguments are, the law returns true and leaves its input as it was. No conditions.
-/
import Derived.Test.YtbifmjgjbnncjaaOpen
import Derived.Test.YtbifmjgjbnncjaaCrcTurnedAt
import Derived.WalkKit
import Derived.ProofKit
import Derived.OpenShut
import Derived.ShutString
import Derived.ChangeOld
import Derived.Below
namespace Go.Proofs.Ytbifmjgjbnncjaa.crcTurned
open Go.ChangeShapes Go.WideShapes Go.ChangeAt Go.RowKit
open Go.ChangeMaps (open_string shut_string)
open Go.Proofs.Ytbifmjgjbnncjaa.mem Go.Proofs.Ytbifmjgjbnncjaa.base Go.Proofs.Ytbifmjgjbnncjaa.crc
set_option linter.unusedVariables false

theorem own : ownKnob Try.prog.godebug = none := by kernel_rfl
theorem laidOut : laidOutB Try.prog = true := by kernel_rfl

set_option maxRecDepth 100000 in
set_option maxHeartbeats 1000000 in
theorem walk_out (a : Option Addr) (n c : Nat) (at_ p : Int) (w : World) (h : n < 1 ∨ 1000 < n) :
    Calls Try.prog 5 #[.slice a n c, .int .i64 at_, .int .u32 p] w fun e w' => e = .returned (.bool true) ∧ Below w.heap.size w w' := by
  go_enter Try.func5, Try.ntmps5
  go_wp2_with (go_at_call 8; refine (awake_any _).mono ?_; rintro e w' ⟨rfl, hb⟩)
  all_goals go_ret
  all_goals exact ⟨rfl, hb.below (by simp)⟩

theorem neq_is (X Y : Nat) (any : Bool) (h : X = Y ↔ any = false) : (((X : Int) != (Y : Int)) == any) = true := by
  cases any
  · have : X = Y := h.2 rfl
    simp [this]
  · have : ¬ X = Y := fun e => by have := h.1 e; cases this
    have h2 : ((X : Int) != (Y : Int)) = true := by rw [bne_iff_ne]; omega
    rw [h2]
    rfl

set_option maxRecDepth 100000 in
set_option maxHeartbeats 1000000 in
theorem walk_in (a : Option Addr) (n c : Nat) (at_ : Int) (p : Nat) (bs : List UInt8) (w : World) (hv : Vals w [] a (bs.map B)) (hl : bs.length = n) (hnc : n ≤ c) (h1 : 1 ≤ n) (hn : n ≤ 1000) (hp : p < 4294967296) :
    Calls Try.prog 5 #[.slice a n c, .int .i64 at_, .int .u32 p] w fun e w' => e = .returned (.bool true) ∧ Below w.heap.size w w' := by
  have HV := hide hv
  have HL := hide hl
  clear hv hl
  go_enter Try.func5, Try.ntmps5
  go_wp2_with fail
  refine (turned_any a n c at_ p bs _ HV.out HL.out hnc h1 hn hp).mono ?_
  rintro e w1 ⟨g, first, out, any, rfl, hg, hf, ht, ha, hk⟩
  have hfl : first < 8 * bs.length := by
    have := Int.emod_lt_of_pos at_ (show 0 < ((8 * n : Nat) : Int) by omega)
    have := HL.out
    omega
  have HS := hide (ht.sum hfl)
  have HO := hide (ht.len.trans HL.out)
  have HA := hide ha
  have HK := hide hk
  clear hf ht ha hk hfl
  go_wp2_with fail
  refine (sum_any _ _ _ [out] _ (parts_one _ _ 23 _ n n out (Blk.new w1 _ _) HO.out (by omega) ((HA.out.alloc _).vals (by simp))) rfl (by simp)).mono ?_
  rintro e w2 ⟨rfl, hw⟩
  have K2 : Hid (Kept [] w w2) := hide (by rw [← hw]; exact HK.out.alloc _)
  rw [show [out].flatten = out by simp]
  clear hw HA
  go_wp2_with fail
  refine (sum_any _ _ _ [bs] _ (parts_one _ _ 23 _ n c bs (Blk.new w2 _ _) HL.out (by omega) (HV.out.kept (K2.out.alloc _) (by simp))) rfl (by simp)).mono ?_
  rintro e w3 ⟨rfl, hw⟩
  have K3 : Hid (Kept [] w w3) := hide (by rw [← hw]; exact K2.out.alloc _)
  rw [show [bs].flatten = bs by simp]
  clear hw
  have hx := neq_is (more 0 out) (more 0 bs) any HS.out
  generalize more 0 out = X at hx
  generalize more 0 bs = Y at hx
  clear HS
  go_wp2_with (go_at_call 8; refine (awake_any _).mono ?_; rintro e w4 ⟨rfl, hb⟩)
  go_ret
  exact ⟨rfl, (K3.out.trans hb (by simp)).below (by simp)⟩

theorem walk (a0 : Option Addr) (len0 cap0 : Nat) (z0 : List Int) (a1 : Int) (a2 : Int) (w : World) (w0 : IsRow .u8 w a0 len0 cap0 z0) (w1 : (Lit.int .i64 a1).wf = true) (w2 : (Lit.int .u32 a2).wf = true) :
    Calls Try.prog 5 #[.slice a0 len0 cap0, .int .i64 a1, .int .u32 a2] w fun e w' => e = .returned (.bool true) ∧ Below w.heap.size w w' := by
  obtain ⟨bs, hl, hnc, hv, _⟩ := w0.bytes
  have hu := bounds_u32 w2
  obtain ⟨p, rfl⟩ := Int.eq_ofNat_of_zero_le hu.1
  by_cases h : 1 ≤ len0 ∧ len0 ≤ 1000
  · exact walk_in a0 len0 cap0 a1 p bs w hv hl hnc h.1 h.2 (by omega)
  · exact walk_out a0 len0 cap0 a1 _ w (by omega)

/-! ### the row's step, as the guide's skeleton has it -/
set_option maxRecDepth 100000 in
theorem lifted (os : Os) (started : os.Started) (H : Type) (enc : TypeId × Value → H) :
    ReturnsInHanded {} Try.checked os 5 .any (Rows.crcTurnedSpec.pre6 enc Try.prog Try.f5 Rows.crcTurnedRow.domain false) (Rows.crcTurnedSpec.post enc Try.prog Try.f5 false true false false) := by
  refine returnsInHanded_of_change (C := Try.checked) own started (by kernel_rfl) Try.func5
    (ChangeSpec.witness6 (enc := enc) (C := Try.checked) false ⟨#[], #[.slice none 0 0, .int .i64 0, .int .u32 0], []⟩ 8 (by kernel_rfl) (by kernel_rfl) (by kernel_rfl) (by kernel_rfl)) ?_
  intro W base args ds gs before hval0 hW hcnd _
  have hval : ∀ (j : Nat) t v, Try.f5.params[j]? = some t → args[j]? = some v → Value.okWide Try.prog W .any base t v := hval0
  have hW' := hW
  obtain ⟨p, q, hA0, hV, rfl, hfz, hnd⟩ := hW
  have hA : DataW.TrodAll enc Try.prog W 0 (fun _ => true) true Try.f5.params.toList args.toList ds p := hA0
  rw [Try.params5] at hA hval
  obtain ⟨v0, vs0, d0, ds0, p0, q0, hargs, rfl, rfl, h0, r0⟩ := trodAll_cons hA
  obtain ⟨v1, vs1, d1, ds1, p1, q1, rfl, rfl, rfl, h1, r1⟩ := trodAll_cons r0
  obtain ⟨v2, vs2, d2, ds2, p2, q2, rfl, rfl, rfl, h2, r2⟩ := trodAll_cons r1
  obtain ⟨rfl, rfl, rfl⟩ := trodAll_nil r2
  obtain rfl : args = #[v0, v1, v2] := by cases args; simp_all
  obtain ⟨rfl, rfl⟩ := trodVars_none hV
  obtain ⟨a0, len0, cap0, rfl⟩ := okWide_slice Try.underlying23 (hval 0 23 v0 rfl rfl)
  have k0 := h0
  have lt0 : ∀ x ∈ p0, x.block < W.heap.size := by obtain ⟨m, hm⟩ := k0; exact DataW.trod_lt m _ _ _ hm
  obtain ⟨z0, w0⟩ : ∃ zs, IsRow .u8 W a0 len0 cap0 zs := by
    obtain ⟨fuel, hf⟩ := h0
    rcases open_ints Try.underlying23 Try.underlying5 (by kernel_rfl) hf with ⟨hcs, _⟩ | ⟨x, l, c, zs, hcs, _, hl, hm, hz, _, hcell, hwz⟩
    · simp [Value.cells] at hcs
      obtain ⟨rfl, rfl, rfl⟩ := hcs
      exact ⟨[], .inl ⟨rfl, rfl, rfl, rfl⟩⟩
    · simp [Value.cells] at hcs
      obtain ⟨rfl, rfl, rfl⟩ := hcs
      exact ⟨zs, .inr ⟨_, rfl, hl, hm, by simpa using hz, hcell, hwz⟩⟩
  obtain ⟨a1, rfl, rfl, rfl, w1⟩ := open_int Try.underlying3 (hval 1 3 v1 rfl rfl) h1
  obtain ⟨a2, rfl, rfl, rfl, w2⟩ := open_int Try.underlying34 (hval 2 34 v2 rfl rfl) h2
  clear hA0 hval0
  refine (walk a0 len0 cap0 z0 a1 a2 W w0 w1 w2).mono fun e W' ⟨he, bel⟩ => ?_
  subst he
  exact ⟨_, rfl, _, _, _, [], _, [], hW', trodAll_mk1 (shut_bool Try.underlying4 _), (trodAll_cons_mk (Below.trod laidOut (by kernel_rfl) (of_decide_eq_true (by kernel_rfl)) k0 bel lt0) (trodAll_cons_mk (shut_int Try.underlying3 w1) (trodAll_cons_mk (shut_int Try.underlying34 w2) trodAll_mk0))), rfl, bel.frame _, fun h => by cases h⟩

theorem over : Rows.crcTurnedRow.holds Try.pinned (OpenSpec.ofChange Rows.crcTurnedSpec) :=
  OpenClaim.holds_of_wide 5 Try.f5 rfl rfl rfl rfl rfl rfl rfl ⟨rfl, rfl, rfl, rfl, rfl⟩ rfl rfl rfl rfl rfl (by kernel_rfl) Try.func5 (by kernel_rfl)
    (of_decide_eq_true (by kernel_rfl)) (by unfold Func.isWrapper; first | (rw [if_pos (by decide +kernel)]; kernel_rfl) | (rw [if_neg (by decide +kernel)]; exact ⟨rfl, rfl⟩))
    (fun os started H enc _ => lifted os started H enc)

/-- The statement. -/
theorem proved : Rows.CrcTurnedSaid := over
#print axioms proved
end Go.Proofs.Ytbifmjgjbnncjaa.crcTurned

