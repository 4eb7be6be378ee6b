/-
  The given statement RecordReadsSaid is proved: whatever the arguments are, the law returns true and leaves its input as it was. No conditions.
-/
import Derived.Test.YtepooidgmaokeaaRecordAwake
import Derived.Test.YtepooidgmaokeaaRecordROf
import Derived.Test.YtepooidgmaokeaaOpen
import Derived.WalkKit
import Derived.ProofKit
import Derived.OpenShut
import Derived.ShutString
import Derived.ChangeOld
import Derived.Below
namespace Go.Proofs.Ytepooidgmaokeaa.recordReads
open Go.ChangeShapes Go.WideShapes Go.ChangeAt Go.RowKit
open Go.ChangeMaps (open_string shut_string)
open Go.Proofs.Ytepooidgmaokeaa.mem Go.Proofs.Ytepooidgmaokeaa.base Go.Proofs.Ytepooidgmaokeaa.record
set_option linter.unusedVariables false

theorem own : ownKnob Try.prog.godebug = none := by kernel_rfl
theorem laidOut : laidOutB Try.prog = true := by kernel_rfl

set_option maxRecDepth 100000 in
theorem walk_long (A : Option Addr) (n c : Nat) (w : World) (h : 600 < n) :
    Calls Try.prog 4 #[.slice A n c] w fun e w' => e = .returned (.bool true) ∧ Below w.heap.size w w' := by
  have h' : (600 : Int) < n := by omega
  clear h
  go_enter Try.func4, Try.ntmps4
  go_wp2_with fail
  refine (awake_any _).mono ?_
  rintro e W2 ⟨rfl, hk⟩
  have HK2 := hide hk
  clear hk
  go_wp2
  go_ret
  exact ⟨rfl, HK2.out.below (by simp)⟩

theorem decode_few (bs : List UInt8) : (record.decode bs).1.its.length ≤ 6 ∧ (record.decode bs).1.bks.length ≤ 6 := by
  rcases decode_or bs with ⟨R, h1, _, h3⟩ | h
  · rw [h3]
    exact ⟨h1.2.2.2.1.2, h1.few⟩
  · rw [h]
    exact ⟨by decide, by decide⟩

set_option maxRecDepth 100000 in
set_option maxHeartbeats 1000000 in
theorem walk_in (A : Option Addr) (n c : Nat) (bs : List UInt8) (w : World) (hv : Vals w [] A (bs.map B)) (hl : bs.length = n) (hnc : n ≤ c) (hA : A = none → c = 0) (hn : n ≤ 600) :
    Calls Try.prog 4 #[.slice A n c] w fun e w' => e = .returned (.bool true) ∧ Below w.heap.size w w' := by
  have HV := hide hv
  have HL := hide hl
  have HA := hide hA
  obtain ⟨R, sm, er, hd⟩ : ∃ R sm er, record.decode bs = (R, sm, er) := ⟨_, _, _, rfl⟩
  have hfw := decode_few bs
  rw [hd] at hfw
  have HFW := hide hfw
  have HD := hide hd
  have h' : ¬ (600 : Int) < n := by omega
  clear hv hl hA hd hfw
  go_enter Try.func4, Try.ntmps4
  go_wp2_with fail
  refine (decode_any A n c bs _ HV.out HL.out HA.out (by omega)).mono ?_
  rintro e w1 ⟨L1, m1, lc1, P1, k1, pc1, rfl, hrc, hk⟩
  rw [HD.out] at hrc ⊢
  dsimp only at hrc
  have hb2 := Blk.new w1 25 #[.int .i64 R.m, .int .i64 R.l, .int .i64 R.p, .slice L1 m1 lc1, .slice P1 k1 pc1]
  have hk2 := (Kept.refl [] w1).alloc (.cells #[.int .i64 R.m, .int .i64 R.l, .int .i64 R.p, .slice L1 m1 lc1, .slice P1 k1 pc1] 25)
  obtain ⟨g, hg⟩ : ∃ g, w1.heap.size = g := ⟨_, rfl⟩
  rw [hg] at hb2
  have HR2 := hide (hrc.kept hk2)
  have HB2 := hide hb2
  have HK2 := hide (hk.trans hk2 (by simp))
  clear hrc hk hb2 hk2
  go_wp2_with fail
  refine (rof_any A n c bs _ (HV.out.kept HK2.out (by simp)) HL.out hnc (by omega)).mono ?_
  rintro e w3 ⟨L3, m3, lc3, P3, k3, pc3, rfl, hrc, hk⟩
  rw [HD.out] at hrc ⊢
  dsimp only at hrc
  have hb4 := Blk.new w3 25 #[.int .i64 R.m, .int .i64 R.l, .int .i64 R.p, .slice L3 m3 lc3, .slice P3 k3 pc3]
  have hk4 := (Kept.refl [] w3).alloc (.cells #[.int .i64 R.m, .int .i64 R.l, .int .i64 R.p, .slice L3 m3 lc3, .slice P3 k3 pc3] 25)
  obtain ⟨s, hs⟩ : ∃ s, w3.heap.size = s := ⟨_, rfl⟩
  rw [hs] at hb4
  have HX4 := hide (hrc.kept hk4)
  have HS4 := hide hb4
  have HR4 := hide ((HR2.out.kept hk).kept hk4)
  have HB4 := hide (hk4.blk (hk.blk HB2.out (by simp)) (by simp))
  have HK4 := hide ((HK2.out.trans hk (by simp)).trans hk4 (by simp))
  have hm1 : m1 ≤ 6 := by rw [← HR4.out.hn]; exact HFW.out.1
  have hk1 : k1 ≤ 6 := by rw [← HR4.out.hk]; exact HFW.out.2
  obtain ⟨c0, c1, c2, c3, c4⟩ := cell5 HB4.out
  obtain ⟨d0, d1, d2, d3, d4⟩ := cell5 HS4.out
  have h00 : (er == er) = true := by simp
  have h01 : (sm == sm) = true := by simp
  clear hrc hk hb4 hk4 HR2 HB2 HK2
  dsimp only
  go_wp2_with fail
  refine (record_any R R L1 P1 L3 P3 m1 lc1 k1 pc1 m3 lc3 k3 pc3 _ HR4.out HX4.out (by omega) (by omega)).mono ?_
  rintro e w5 ⟨rfl, hk⟩
  rw [show decide (R = R) = true by simp]
  have HK5 := hide (HK4.out.trans hk (by simp))
  clear hk c0 c1 c2 c3 c4 d0 d1 d2 d3 d4 HX4 HS4 HR4 HB4 HK4
  go_wp2_with fail
  refine (size_any A n c bs _ (HV.out.kept HK5.out (by simp)) HL.out hnc HA.out).mono ?_
  rintro e w6 ⟨rfl, hk⟩
  have HK6 := hide (HK5.out.trans hk (by simp))
  clear hk
  go_wp2_with fail
  refine (rsize_any A n c bs _ (HV.out.kept HK6.out (by simp)) HL.out).mono ?_
  rintro e w7 ⟨rfl, rfl⟩
  go_wp2_with fail
  refine (awake_any _).mono ?_
  rintro e w8 ⟨rfl, hk⟩
  have HK8 := hide (HK6.out.trans hk (by simp))
  clear hk
  go_wp2
  go_ret
  exact ⟨rfl, HK8.out.below (by simp)⟩

theorem walk (a0 : Option Addr) (len0 cap0 : Nat) (z0 : List Int) (w : World) (w0 : IsRow .u8 w a0 len0 cap0 z0) :
    Calls Try.prog 4 #[.slice a0 len0 cap0] w fun e w' => e = .returned (.bool true) ∧ Below w.heap.size w w' := by
  obtain ⟨bs, hl, hnc, hv, hA⟩ := w0.bytes
  by_cases h : len0 ≤ 600
  · exact walk_in a0 len0 cap0 bs w hv hl hnc hA h
  · exact walk_long a0 len0 cap0 w (by omega)

/-! ### the row's step, as the guide's skeleton has it -/
set_option maxRecDepth 100000 in
theorem lifted (os : Os) (started : os.Started) (H : Type) (enc : TypeId × Value → H) :
    ReturnsInHanded {} Try.checked os 4 .any (Rows.recordReadsSpec.pre6 enc Try.prog Try.f4 Rows.recordReadsRow.domain false) (Rows.recordReadsSpec.post enc Try.prog Try.f4 false true false false) := by
  refine returnsInHanded_of_change (C := Try.checked) own started (by kernel_rfl) Try.func4
    (ChangeSpec.witness6 (enc := enc) (C := Try.checked) false ⟨#[], #[.slice none 0 0], []⟩ 8 (by kernel_rfl) (by kernel_rfl) (by kernel_rfl) (by kernel_rfl)) ?_
  intro W base args ds gs before hval0 hW hcnd _
  have hval : ∀ (j : Nat) t v, Try.f4.params[j]? = some t → args[j]? = some v → Value.okWide Try.prog W .any base t v := hval0
  have hW' := hW
  obtain ⟨p, q, hA0, hV, rfl, hfz, hnd⟩ := hW
  have hA : DataW.TrodAll enc Try.prog W 0 (fun _ => true) true Try.f4.params.toList args.toList ds p := hA0
  rw [Try.params4] at hA hval
  obtain ⟨v0, vs0, d0, ds0, p0, q0, hargs, rfl, rfl, h0, r0⟩ := trodAll_cons hA
  obtain ⟨rfl, rfl, rfl⟩ := trodAll_nil r0
  obtain rfl : args = #[v0] := by cases args; simp_all
  obtain ⟨rfl, rfl⟩ := trodVars_none hV
  obtain ⟨a0, len0, cap0, rfl⟩ := okWide_slice Try.underlying28 (hval 0 28 v0 rfl rfl)
  have k0 := h0
  have lt0 : ∀ x ∈ p0, x.block < W.heap.size := by obtain ⟨m, hm⟩ := k0; exact DataW.trod_lt m _ _ _ hm
  obtain ⟨z0, w0⟩ : ∃ zs, IsRow .u8 W a0 len0 cap0 zs := by
    obtain ⟨fuel, hf⟩ := h0
    rcases open_ints Try.underlying28 Try.underlying5 (by kernel_rfl) hf with ⟨hcs, _⟩ | ⟨x, l, c, zs, hcs, _, hl, hm, hz, _, hcell, hwz⟩
    · simp [Value.cells] at hcs
      obtain ⟨rfl, rfl, rfl⟩ := hcs
      exact ⟨[], .inl ⟨rfl, rfl, rfl, rfl⟩⟩
    · simp [Value.cells] at hcs
      obtain ⟨rfl, rfl, rfl⟩ := hcs
      exact ⟨zs, .inr ⟨_, rfl, hl, hm, by simpa using hz, hcell, hwz⟩⟩
  clear hA0 hval0
  refine (walk a0 len0 cap0 z0 W w0).mono fun e W' ⟨he, bel⟩ => ?_
  subst he
  exact ⟨_, rfl, _, _, _, [], _, [], hW', trodAll_mk1 (shut_bool Try.underlying4 _), (trodAll_cons_mk (Below.trod laidOut (by kernel_rfl) (of_decide_eq_true (by kernel_rfl)) k0 bel lt0) trodAll_mk0), rfl, bel.frame _, fun h => by cases h⟩

theorem over : Rows.recordReadsRow.holds Try.pinned (OpenSpec.ofChange Rows.recordReadsSpec) :=
  OpenClaim.holds_of_wide 4 Try.f4 rfl rfl rfl rfl rfl rfl rfl ⟨rfl, rfl, rfl, rfl, rfl⟩ rfl rfl rfl rfl rfl (by kernel_rfl) Try.func4 (by kernel_rfl)
    (of_decide_eq_true (by kernel_rfl)) (by unfold Func.isWrapper; first | (rw [if_pos (by decide +kernel)]; kernel_rfl) | (rw [if_neg (by decide +kernel)]; exact ⟨rfl, rfl⟩))
    (fun os started H enc _ => lifted os started H enc)

/-- The statement. -/
theorem proved : Rows.RecordReadsSaid := over
#print axioms proved
end Go.Proofs.Ytepooidgmaokeaa.recordReads

