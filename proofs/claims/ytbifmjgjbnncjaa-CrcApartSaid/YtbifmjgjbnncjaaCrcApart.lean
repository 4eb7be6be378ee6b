/-
  The given statement CrcApartSaid is proved: whatever the arguments are, the law returns true and leaves its input as it was. No conditions.
-/
import Derived.Test.YtbifmjgjbnncjaaOpen
import Derived.Test.YtbifmjgjbnncjaaCrcTurnedAt
import Derived.WalkKit
import Derived.ProofKit
import Derived.OpenShut
import Derived.ShutString
import Derived.ChangeOld
import Derived.Below
namespace Go.Proofs.Ytbifmjgjbnncjaa.crcApart
open Go.ChangeShapes Go.WideShapes Go.ChangeAt Go.RowKit
open Go.ChangeMaps (open_string shut_string)
open Go.Proofs.Ytbifmjgjbnncjaa.mem Go.Proofs.Ytbifmjgjbnncjaa.base Go.Proofs.Ytbifmjgjbnncjaa.crc
set_option linter.unusedVariables false

theorem own : ownKnob Try.prog.godebug = none := by kernel_rfl
theorem laidOut : laidOutB Try.prog = true := by kernel_rfl

set_option maxRecDepth 100000 in
set_option maxHeartbeats 1000000 in
theorem walk_low (a b : Option Addr) (n c m d : Nat) (at_ p : Int) (w : World) (h : n < 1) :
    Calls Try.prog 6 #[.slice a n c, .slice b m d, .int .i64 at_, .int .u32 p] w fun e w' => e = .returned (.bool true) ∧ Below w.heap.size w w' := by
  go_enter Try.func6, Try.ntmps6
  go_wp2_with (go_at_call 8; refine (awake_any _).mono ?_; rintro e w' ⟨rfl, hb⟩)
  all_goals go_ret
  all_goals exact ⟨rfl, hb.below (by simp)⟩

set_option maxRecDepth 100000 in
set_option maxHeartbeats 1000000 in
theorem walk_odd (a b : Option Addr) (n c m d : Nat) (at_ p : Int) (w : World) (h1 : 1 ≤ n) (h : n ≠ m) :
    Calls Try.prog 6 #[.slice a n c, .slice b m d, .int .i64 at_, .int .u32 p] w fun e w' => e = .returned (.bool true) ∧ Below w.heap.size w w' := by
  have h2 : ((n : Int) != (m : Int)) = true := by rw [bne_iff_ne]; omega
  go_enter Try.func6, Try.ntmps6
  go_wp2_with (go_at_call 8; refine (awake_any _).mono ?_; rintro e w' ⟨rfl, hb⟩)
  all_goals go_ret
  all_goals exact ⟨rfl, hb.below (by simp)⟩

set_option maxRecDepth 100000 in
set_option maxHeartbeats 1000000 in
theorem walk_high (a b : Option Addr) (n c m d : Nat) (at_ p : Int) (w : World) (h1 : 1 ≤ n) (h : n = m) (h3 : 500 < n) :
    Calls Try.prog 6 #[.slice a n c, .slice b m d, .int .i64 at_, .int .u32 p] w fun e w' => e = .returned (.bool true) ∧ Below w.heap.size w w' := by
  subst h
  go_enter Try.func6, Try.ntmps6
  go_wp2_with (go_at_call 8; refine (awake_any _).mono ?_; rintro e w' ⟨rfl, hb⟩)
  all_goals go_ret
  all_goals exact ⟨rfl, hb.below (by simp)⟩

/-- The xor of two sums, as the program reckons it. -/
theorem xor_sums (X Y : Nat) (hx : X ≤ 4294967295) (hy : Y ≤ 4294967295) : bits .xor .i64 (X : Int) (Y : Int) = ((X ^^^ Y : Nat) : Int) := by
  have h : X ^^^ Y < 2 ^ 63 := Nat.xor_lt_two_pow (by omega) (by omega)
  have h1 : (BitVec.ofInt 64 (X : Int)).toNat = X := by rw [BitVec.ofInt_natCast, BitVec.toNat_ofNat]; exact Nat.mod_eq_of_lt (by omega)
  have h2 : (BitVec.ofInt 64 (Y : Int)).toNat = Y := by rw [BitVec.ofInt_natCast, BitVec.toNat_ofNat]; exact Nat.mod_eq_of_lt (by omega)
  show IntKind.i64.wrap ((BitVec.ofInt 64 (X : Int) ^^^ BitVec.ofInt 64 (Y : Int)).toNat : Int) = _
  rw [BitVec.toNat_xor, h1, h2, IntKind.wrap_i64]
  omega

set_option maxRecDepth 100000 in
set_option maxHeartbeats 1000000 in
theorem walk_in (a b : Option Addr) (n c d : Nat) (at_ : Int) (p : Nat) (bs ys : List UInt8) (w : World) (hv : Vals w [] a (bs.map B)) (hl : bs.length = n) (hnc : n ≤ c) (hv2 : Vals w [] b (ys.map B)) (hl2 : ys.length = n) (hnd : n ≤ d) (h1 : 1 ≤ n) (hn : n ≤ 500) (hp : p < 4294967296) :
    Calls Try.prog 6 #[.slice a n c, .slice b n d, .int .i64 at_, .int .u32 p] w fun e w' => e = .returned (.bool true) ∧ Below w.heap.size w w' := by
  have HV := hide hv
  have HL := hide hl
  have HV2 := hide hv2
  have HL2 := hide hl2
  clear hv hl hv2 hl2
  go_enter Try.func6, Try.ntmps6
  go_wp2_with fail
  refine (turned_any a n c at_ p bs _ HV.out HL.out hnc h1 (by omega) hp).mono ?_
  rintro e w1 ⟨g, first, out, any, rfl, hg, hf, ht, ha, hk⟩
  have HO := hide (ht.len.trans HL.out)
  have HD : Hid (more 0 out ^^^ more 0 bs = crcMath.crcBits 0 (errBits (8 * n) first p)) := hide (by have := ht.diff; rwa [HL.out] at this)
  have HA := hide ha
  have HK := hide hk
  have HF := hide hf
  clear hf ht ha hk
  go_wp2_with fail
  refine (turned_any b n d at_ p ys _ (HV2.out.kept HK.out (by simp)) HL2.out hnd h1 (by omega) hp).mono ?_
  rintro e w2 ⟨g2, first2, out2, any2, rfl, hg2, hf2, ht2, ha2, hk2⟩
  have HO2 := hide (ht2.len.trans HL2.out)
  have HE : Hid (more 0 out ^^^ more 0 bs = more 0 out2 ^^^ more 0 ys) := hide (by
    have := ht2.diff
    rw [HL2.out, hf2, ← HF.out] at this
    rw [this, HD.out])
  have HA2 := hide ha2
  have HA1 : Hid (Arr w2 g n out) := hide (HA.out.kept hk2 (by simp))
  have K2 : Hid (Kept [] w w2) := hide (HK.out.trans hk2 (by simp))
  clear hf2 ht2 ha2 hk2 HD HF HA HK
  go_wp2_with fail
  refine (sum_any _ _ _ [out] _ (parts_one _ _ 23 _ n n out (Blk.new w2 _ _) HO.out (by omega) ((HA1.out.alloc _).vals (by simp))) rfl (by simp)).mono ?_
  rintro e w3 ⟨rfl, hw⟩
  have K3 : Hid (Kept [] w2 w3) := hide (by rw [← hw]; exact (Kept.refl [] w2).alloc _)
  rw [show [out].flatten = out by simp]
  clear hw
  go_wp2_with fail
  refine (sum_any _ _ _ [bs] _ (parts_one _ _ 23 _ n c bs (Blk.new w3 _ _) HL.out (by omega) (((HV.out.kept K2.out (by simp)).kept K3.out (by simp)).kept ((Kept.refl [] w3).alloc _) (by simp))) rfl (by simp)).mono ?_
  rintro e w4 ⟨rfl, hw⟩
  have K4 : Hid (Kept [] w2 w4) := hide (by rw [← hw]; exact K3.out.alloc _)
  rw [show [bs].flatten = bs by simp]
  clear hw K3
  go_wp2_with fail
  refine (sum_any _ _ _ [out2] _ (parts_one _ _ 23 _ n n out2 (Blk.new w4 _ _) HO2.out (by omega) (((HA2.out.kept K4.out (by simp)).alloc _).vals (by simp))) rfl (by simp)).mono ?_
  rintro e w5 ⟨rfl, hw⟩
  have K5 : Hid (Kept [] w2 w5) := hide (by rw [← hw]; exact K4.out.alloc _)
  rw [show [out2].flatten = out2 by simp]
  clear hw K4
  go_wp2_with fail
  refine (sum_any _ _ _ [ys] _ (parts_one _ _ 23 _ n d ys (Blk.new w5 _ _) HL2.out (by omega) (((HV2.out.kept K2.out (by simp)).kept K5.out (by simp)).kept ((Kept.refl [] w5).alloc _) (by simp))) rfl (by simp)).mono ?_
  rintro e w6 ⟨rfl, hw⟩
  have K6 : Hid (Kept [] w w6) := hide (by rw [← hw]; exact (K2.out.trans K5.out (by simp)).alloc _)
  rw [show [ys].flatten = ys by simp]
  clear hw K5 K2 HA1 HA2
  have hx := xor_sums (more 0 out) (more 0 bs) (more_le _ _) (more_le _ _)
  have hy := xor_sums (more 0 out2) (more 0 ys) (more_le _ _) (more_le _ _)
  rw [HE.out] at hx
  generalize more 0 out ^^^ more 0 bs = E at HE
  clear HE
  generalize more 0 out2 ^^^ more 0 ys = E2 at hx hy
  generalize more 0 out = X1 at hx
  generalize more 0 bs = X2 at hx
  generalize more 0 out2 = X3 at hy
  generalize more 0 ys = X4 at hy
  go_wp2_with (go_at_call 8; refine (awake_any _).mono ?_; rintro e w7 ⟨rfl, hb⟩)
  go_ret
  exact ⟨rfl, (K6.out.trans hb (by simp)).below (by simp)⟩

theorem walk (a0 : Option Addr) (len0 cap0 : Nat) (z0 : List Int) (a1 : Option Addr) (len1 cap1 : Nat) (z1 : List Int) (a2 : Int) (a3 : Int) (w : World) (w0 : IsRow .u8 w a0 len0 cap0 z0) (w1 : IsRow .u8 w a1 len1 cap1 z1) (w2 : (Lit.int .i64 a2).wf = true) (w3 : (Lit.int .u32 a3).wf = true) :
    Calls Try.prog 6 #[.slice a0 len0 cap0, .slice a1 len1 cap1, .int .i64 a2, .int .u32 a3] w fun e w' => e = .returned (.bool true) ∧ Below w.heap.size w w' := by
  obtain ⟨bs, hl, hnc, hv, _⟩ := w0.bytes
  obtain ⟨ys, hl2, hnd, hv2, _⟩ := w1.bytes
  have hu := bounds_u32 w3
  obtain ⟨p, rfl⟩ := Int.eq_ofNat_of_zero_le hu.1
  by_cases h : 1 ≤ len0
  · by_cases h2 : len0 = len1
    · by_cases h3 : len0 ≤ 500
      · subst h2
        exact walk_in a0 a1 len0 cap0 cap1 a2 p bs ys w hv hl hnc hv2 hl2 hnd h h3 (by omega)
      · exact walk_high a0 a1 len0 cap0 len1 cap1 a2 _ w h h2 (by omega)
    · exact walk_odd a0 a1 len0 cap0 len1 cap1 a2 _ w h h2
  · exact walk_low a0 a1 len0 cap0 len1 cap1 a2 _ w (by omega)

/-! ### the row's step, as the guide's skeleton has it -/
set_option maxRecDepth 100000 in
theorem lifted (os : Os) (started : os.Started) (H : Type) (enc : TypeId × Value → H) :
    ReturnsInHanded {} Try.checked os 6 .any (Rows.crcApartSpec.pre6 enc Try.prog Try.f6 Rows.crcApartRow.domain false) (Rows.crcApartSpec.post enc Try.prog Try.f6 false true false false) := by
  refine returnsInHanded_of_change (C := Try.checked) own started (by kernel_rfl) Try.func6
    (ChangeSpec.witness6 (enc := enc) (C := Try.checked) false ⟨#[], #[.slice none 0 0, .slice none 0 0, .int .i64 0, .int .u32 0], []⟩ 8 (by kernel_rfl) (by kernel_rfl) (by kernel_rfl) (by kernel_rfl)) ?_
  intro W base args ds gs before hval0 hW hcnd _
  have hval : ∀ (j : Nat) t v, Try.f6.params[j]? = some t → args[j]? = some v → Value.okWide Try.prog W .any base t v := hval0
  have hW' := hW
  obtain ⟨p, q, hA0, hV, rfl, hfz, hnd⟩ := hW
  have hA : DataW.TrodAll enc Try.prog W 0 (fun _ => true) true Try.f6.params.toList args.toList ds p := hA0
  rw [Try.params6] at hA hval
  obtain ⟨v0, vs0, d0, ds0, p0, q0, hargs, rfl, rfl, h0, r0⟩ := trodAll_cons hA
  obtain ⟨v1, vs1, d1, ds1, p1, q1, rfl, rfl, rfl, h1, r1⟩ := trodAll_cons r0
  obtain ⟨v2, vs2, d2, ds2, p2, q2, rfl, rfl, rfl, h2, r2⟩ := trodAll_cons r1
  obtain ⟨v3, vs3, d3, ds3, p3, q3, rfl, rfl, rfl, h3, r3⟩ := trodAll_cons r2
  obtain ⟨rfl, rfl, rfl⟩ := trodAll_nil r3
  obtain rfl : args = #[v0, v1, v2, v3] := by cases args; simp_all
  obtain ⟨rfl, rfl⟩ := trodVars_none hV
  obtain ⟨a0, len0, cap0, rfl⟩ := okWide_slice Try.underlying23 (hval 0 23 v0 rfl rfl)
  have k0 := h0
  have lt0 : ∀ x ∈ p0, x.block < W.heap.size := by obtain ⟨m, hm⟩ := k0; exact DataW.trod_lt m _ _ _ hm
  obtain ⟨z0, w0⟩ : ∃ zs, IsRow .u8 W a0 len0 cap0 zs := by
    obtain ⟨fuel, hf⟩ := h0
    rcases open_ints Try.underlying23 Try.underlying5 (by kernel_rfl) hf with ⟨hcs, _⟩ | ⟨x, l, c, zs, hcs, _, hl, hm, hz, _, hcell, hwz⟩
    · simp [Value.cells] at hcs
      obtain ⟨rfl, rfl, rfl⟩ := hcs
      exact ⟨[], .inl ⟨rfl, rfl, rfl, rfl⟩⟩
    · simp [Value.cells] at hcs
      obtain ⟨rfl, rfl, rfl⟩ := hcs
      exact ⟨zs, .inr ⟨_, rfl, hl, hm, by simpa using hz, hcell, hwz⟩⟩
  obtain ⟨a1, len1, cap1, rfl⟩ := okWide_slice Try.underlying23 (hval 1 23 v1 rfl rfl)
  have k1 := h1
  have lt1 : ∀ x ∈ p1, x.block < W.heap.size := by obtain ⟨m, hm⟩ := k1; exact DataW.trod_lt m _ _ _ hm
  obtain ⟨z1, w1⟩ : ∃ zs, IsRow .u8 W a1 len1 cap1 zs := by
    obtain ⟨fuel, hf⟩ := h1
    rcases open_ints Try.underlying23 Try.underlying5 (by kernel_rfl) hf with ⟨hcs, _⟩ | ⟨x, l, c, zs, hcs, _, hl, hm, hz, _, hcell, hwz⟩
    · simp [Value.cells] at hcs
      obtain ⟨rfl, rfl, rfl⟩ := hcs
      exact ⟨[], .inl ⟨rfl, rfl, rfl, rfl⟩⟩
    · simp [Value.cells] at hcs
      obtain ⟨rfl, rfl, rfl⟩ := hcs
      exact ⟨zs, .inr ⟨_, rfl, hl, hm, by simpa using hz, hcell, hwz⟩⟩
  obtain ⟨a2, rfl, rfl, rfl, w2⟩ := open_int Try.underlying3 (hval 2 3 v2 rfl rfl) h2
  obtain ⟨a3, rfl, rfl, rfl, w3⟩ := open_int Try.underlying34 (hval 3 34 v3 rfl rfl) h3
  clear hA0 hval0
  refine (walk a0 len0 cap0 z0 a1 len1 cap1 z1 a2 a3 W w0 w1 w2 w3).mono fun e W' ⟨he, bel⟩ => ?_
  subst he
  exact ⟨_, rfl, _, _, _, [], _, [], hW', trodAll_mk1 (shut_bool Try.underlying4 _), (trodAll_cons_mk (Below.trod laidOut (by kernel_rfl) (of_decide_eq_true (by kernel_rfl)) k0 bel lt0) (trodAll_cons_mk (Below.trod laidOut (by kernel_rfl) (of_decide_eq_true (by kernel_rfl)) k1 bel lt1) (trodAll_cons_mk (shut_int Try.underlying3 w2) (trodAll_cons_mk (shut_int Try.underlying34 w3) trodAll_mk0)))), rfl, bel.frame _, fun h => by cases h⟩

theorem over : Rows.crcApartRow.holds Try.pinned (OpenSpec.ofChange Rows.crcApartSpec) :=
  OpenClaim.holds_of_wide 6 Try.f6 rfl rfl rfl rfl rfl rfl rfl ⟨rfl, rfl, rfl, rfl, rfl⟩ rfl rfl rfl rfl rfl (by kernel_rfl) Try.func6 (by kernel_rfl)
    (of_decide_eq_true (by kernel_rfl)) (by unfold Func.isWrapper; first | (rw [if_pos (by decide +kernel)]; kernel_rfl) | (rw [if_neg (by decide +kernel)]; exact ⟨rfl, rfl⟩))
    (fun os started H enc _ => lifted os started H enc)

/-- The statement. -/
theorem proved : Rows.CrcApartSaid := over
#print axioms proved
end Go.Proofs.Ytbifmjgjbnncjaa.crcApart

