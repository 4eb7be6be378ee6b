/-
  The given statement ItemTellsSaid is proved: whatever the arguments are, the law returns true and leaves its input as it was. No conditions.
-/
import Derived.Test.YtbghkfjjmgmjmaaItemAwake
import Derived.Test.YtbghkfjjmgmjmaaItemRef
import Derived.Test.YtbghkfjjmgmjmaaAlike
import Derived.Test.YtbghkfjjmgmjmaaHeld
import Derived.Test.YtbghkfjjmgmjmaaSlabs
import Derived.WalkKit
import Derived.ProofKit
import Derived.OpenShut
import Derived.ShutString
import Derived.ChangeOld
import Derived.Below
namespace Go.Proofs.Ytbghkfjjmgmjmaa.itemTells
open Go.ChangeShapes Go.WideShapes Go.ChangeAt Go.RowKit
open Go.ChangeMaps (open_string shut_string)
open Go.Proofs.Ytbghkfjjmgmjmaa.mem Go.Proofs.Ytbghkfjjmgmjmaa.base Go.Proofs.Ytbghkfjjmgmjmaa.item Go.Proofs.Ytbghkfjjmgmjmaa.row Go.Proofs.Ytbghkfjjmgmjmaa.ref
set_option linter.unusedVariables false

theorem own : ownKnob Try.prog.godebug = none := by kernel_rfl
theorem laidOut : laidOutB Try.prog = true := by kernel_rfl

theorem items_of {w : World} {A : Option Addr} {l : List (List Int)} (h : Slab w 4 A l) : ∃ its : List It, its.length = l.length ∧ Items w [] A its := by
  refine ⟨l.map (fun xs => ⟨xs.getD 0 0, xs.getD 1 0, xs.getD 2 0, xs.getD 3 0⟩), by simp, Items.of fun k i hi => ?_⟩
  rw [List.getElem?_map] at hi
  obtain ⟨xs, hx, rfl⟩ := Option.map_eq_some_iff.1 hi
  obtain ⟨h4, a, rfl, hc⟩ := h k xs hx
  obtain ⟨x0, x1, x2, x3, rfl⟩ := list4 h4
  refine ⟨a, rfl, by simp, hc 0 x0 rfl, ?_, ?_, ?_⟩
  · rw [← add_field a _ 1 (by omega)]; exact hc 1 x1 rfl
  · rw [← add_field a _ 2 (by omega)]; exact hc 2 x2 rfl
  · rw [← add_field a _ 3 (by omega)]; exact hc 3 x3 rfl

theorem held4 {w0 W W' : World} {q : Addr} {i : It} (h : Kept [] w0 W ∧ W.cell? q = some (.int .i64 i.k) ∧ W.cell? ⟨q.block, q.off + 1, none⟩ = some (.int .i64 i.b) ∧ W.cell? ⟨q.block, q.off + 2, none⟩ = some (.int .i64 i.c) ∧ W.cell? ⟨q.block, q.off + 3, none⟩ = some (.int .i64 i.v)) (hk : Kept [] W W') :
    Kept [] w0 W' ∧ W'.cell? q = some (.int .i64 i.k) ∧ W'.cell? ⟨q.block, q.off + 1, none⟩ = some (.int .i64 i.b) ∧ W'.cell? ⟨q.block, q.off + 2, none⟩ = some (.int .i64 i.c) ∧ W'.cell? ⟨q.block, q.off + 3, none⟩ = some (.int .i64 i.v) :=
  ⟨h.1.trans hk (by simp), hk.cell h.2.1 (by simp), hk.cell h.2.2.1 (by simp), hk.cell h.2.2.2.1 (by simp), hk.cell h.2.2.2.2 (by simp)⟩

set_option maxRecDepth 100000 in
theorem walk_long (L : Option Addr) (n c : Nat) (w : World) (h : 20 < n) :
    Calls Try.prog 3 #[.slice L n c] w fun e w' => e = .returned (.bool true) ∧ Below w.heap.size w w' := by
  go_enter Try.func3, Try.ntmps3
  go_wp2_with fail
  refine (awake_any _).mono ?_
  rintro e W2 ⟨rfl, hk⟩
  have HK2 := hide hk
  clear hk
  go_wp2
  go_ret
  exact ⟨rfl, HK2.out.below (by simp)⟩

set_option maxRecDepth 100000 in
set_option maxHeartbeats 1000000 in
theorem walk_in (L : Option Addr) (n c : Nat) (l : List It) (w : World) (hv : Items w [] L l) (hl : l.length = n) (hn : n ≤ 20) :
    Calls Try.prog 3 #[.slice L n c] w fun e w' => e = .returned (.bool true) ∧ Below w.heap.size w w' := by
  have HV := hide hv
  have HL := hide hl
  clear hv hl
  go_enter Try.func3, Try.ntmps3
  go_wp2
  go_loopw [3] (fun i wr => ∃ k : Nat, k ≤ n ∧ i = .int .i64 k ∧ Hid (Kept [] w wr)) (fun i wr => n - (intOf i).toNat)
  case atStart => exact ⟨0, by omega, rfl, hide (Kept.refl _ _)⟩
  case round =>
    obtain ⟨k, hk, rfl, HK1⟩ := hrel
    by_cases hlt : k < n
    · obtain ⟨i, hi⟩ : ∃ i, l[k]? = some i := ⟨_, List.getElem?_eq_getElem (by rw [HL.out]; exact hlt)⟩
      obtain ⟨ad, rfl, _, c0, c1, c2, c3⟩ := (HV.out.kept HK1.out (by simp)).at_ hi
      have HS0 := hide (show Kept [] wr wr ∧ wr.cell? (ad.add (k * 4)) = some (.int .i64 i.k) ∧ wr.cell? ⟨(ad.add (k * 4)).block, (ad.add (k * 4)).off + 1, none⟩ = some (.int .i64 i.b) ∧ wr.cell? ⟨(ad.add (k * 4)).block, (ad.add (k * 4)).off + 2, none⟩ = some (.int .i64 i.c) ∧ wr.cell? ⟨(ad.add (k * 4)).block, (ad.add (k * 4)).off + 3, none⟩ = some (.int .i64 i.v) from ⟨Kept.refl _ _, c0, c1, c2, c3⟩)
      clear c0 c1 c2 c3 hi
      have b1 : (i.may != i.may) = false := by simp
      have b2 : (i.loaded != i.loaded) = false := by simp
      go_wp2
      go_region_held3 (fun W => Kept [] wr W ∧ W.cell? (ad.add (k * 4)) = some (.int .i64 i.k) ∧ W.cell? ⟨(ad.add (k * 4)).block, (ad.add (k * 4)).off + 1, none⟩ = some (.int .i64 i.b) ∧ W.cell? ⟨(ad.add (k * 4)).block, (ad.add (k * 4)).off + 2, none⟩ = some (.int .i64 i.c) ∧ W.cell? ⟨(ad.add (k * 4)).block, (ad.add (k * 4)).off + 3, none⟩ = some (.int .i64 i.v))
        (first | exact ⟨HS0.out.1.drew, HS0.out.2⟩ | exact held4 (by assumption) hkn | assumption)
        (first
          | (go_at_call 8; refine (may_any i _).mono ?_; rintro e wn ⟨rfl, hkn⟩)
          | (go_at_call 9; refine (rmay_any i _).mono ?_; rintro e wn ⟨rfl, hkn⟩)
          | (go_at_call 10; refine (loaded_any i _).mono ?_; rintro e wn ⟨rfl, hkn⟩)
          | (go_at_call 11; refine (rloaded_any i _).mono ?_; rintro e wn ⟨rfl, hkn⟩))
      have hS := ‹Kept [] wr _ ∧ _›
      have HK2 := hide (HK1.out.trans hS.1 (by simp))
      clear hS
      go_wp2
      go_roundw
      case rel => exact ⟨k + 1, by omega, by go_num, HK2⟩
      case measure => simp [intOf]; omega
    · obtain rfl : k = n := by omega
      obtain ⟨xs, er, hx⟩ : ∃ xs er, encode l = (xs, er) := ⟨_, _, rfl⟩
      have hxl : xs.length ≤ 42 := by
        unfold encode at hx
        split at hx
        · rename_i h
          rw [Prod.mk.injEq] at hx
          rw [← hx.1, laid_len]
          have := h.1
          omega
        · rw [Prod.mk.injEq] at hx
          rw [← hx.1]
          simp
      have HX := hide hx
      clear hx
      go_wp2_with fail
      refine (encode_all L k c l _ (HV.out.kept HK1.out (by simp)) HL.out).mono ?_
      rintro e w2 ⟨A2, n2, c2, rfl, hn2, hnb, hk2⟩
      rw [HX.out] at hn2 hnb ⊢
      have HK2 := hide (HK1.out.trans hk2 (by simp))
      have HN2 := hide hn2
      have HX2 := hide (hnb.vals (S := []) (by simp))
      clear hk2 hn2 hnb
      go_wp2_with fail
      refine (rbytes_any L k c l _ (HV.out.kept HK2.out (by simp)) HL.out).mono ?_
      rintro e w3 ⟨A3, n3, c3, rfl, hn3, hv3, hk3⟩
      rw [HX.out] at hn3 hv3 ⊢
      have HK3 := hide (HK2.out.trans hk3 (by simp))
      have HX3 := hide (HX2.out.kept hk3 (by simp))
      have HY3 := hide hv3
      have HN3 := hide hn3
      clear hk3 hn3 hv3
      go_wp2_with fail
      refine (base.bytes_any A2 A3 n2 n3 c2 c3 xs xs _ HN2.out.symm HN3.out.symm HX3.out HY3.out (by have := HN2.out; omega)).mono ?_
      rintro e w4 ⟨rfl, d, rfl⟩
      rw [show decide (xs = xs) = true by simp]
      have HK4 := hide (HK3.out.drewN d)
      go_wp2_with fail
      refine (awake_any _).mono ?_
      rintro e w5 ⟨rfl, hk5⟩
      have HK5 := hide (HK4.out.trans hk5 (by simp))
      clear hk5
      go_wp2
      go_ret
      exact ⟨rfl, HK5.out.below (by simp)⟩

theorem walk (a0 : Option Addr) (len0 cap0 : Nat) (l0 : List (List Int)) (w : World) (w0 : Slab w 4 a0 l0) (e0 : l0.length = len0) (b0 : len0 ≤ cap0 ∧ cap0 ≤ maxLen) :
    Calls Try.prog 3 #[.slice a0 len0 cap0] w fun e w' => e = .returned (.bool true) ∧ Below w.heap.size w w' := by
  obtain ⟨its, hl, hi⟩ := items_of w0
  by_cases h : len0 ≤ 20
  · exact walk_in a0 len0 cap0 its w hi (hl.trans e0) h
  · exact walk_long a0 len0 cap0 w (by omega)

/-! ### the row's step, as the guide's skeleton has it -/
set_option maxRecDepth 100000 in
theorem lifted (os : Os) (started : os.Started) (H : Type) (enc : TypeId × Value → H) :
    ReturnsInHanded {} Try.checked os 3 .any (Rows.itemTellsSpec.pre6 enc Try.prog Try.f3 Rows.itemTellsRow.domain false) (Rows.itemTellsSpec.post enc Try.prog Try.f3 false true false false) := by
  refine returnsInHanded_of_change (C := Try.checked) own started (by kernel_rfl) Try.func3
    (ChangeSpec.witness6 (enc := enc) (C := Try.checked) false ⟨#[], #[.slice none 0 0], []⟩ 8 (by kernel_rfl) (by kernel_rfl) (by kernel_rfl) (by kernel_rfl)) ?_
  intro W base args ds gs before hval0 hW hcnd _
  have hval : ∀ (j : Nat) t v, Try.f3.params[j]? = some t → args[j]? = some v → Value.okWide Try.prog W .any base t v := hval0
  have hW' := hW
  obtain ⟨p, q, hA0, hV, rfl, hfz, hnd⟩ := hW
  have hA : DataW.TrodAll enc Try.prog W 0 (fun _ => true) true Try.f3.params.toList args.toList ds p := hA0
  rw [Try.params3] at hA hval
  obtain ⟨v0, vs0, d0, ds0, p0, q0, hargs, rfl, rfl, h0, r0⟩ := trodAll_cons hA
  obtain ⟨rfl, rfl, rfl⟩ := trodAll_nil r0
  obtain rfl : args = #[v0] := by cases args; simp_all
  obtain ⟨rfl, rfl⟩ := trodVars_none hV
  obtain ⟨a0, len0, cap0, rfl⟩ := okWide_slice Try.underlying22 (hval 0 22 v0 rfl rfl)
  have k0 := h0
  have lt0 : ∀ x ∈ p0, x.block < W.heap.size := by obtain ⟨m, hm⟩ := k0; exact DataW.trod_lt m _ _ _ hm
  obtain ⟨l0, e0, w0, b0⟩ : ∃ l : List (List Int), l.length = len0 ∧ Slab W 4 a0 l ∧ len0 ≤ cap0 ∧ cap0 ≤ maxLen := by
    obtain ⟨fuel, hf⟩ := h0
    exact slab_of Try.underlying22 (by kernel_rfl) (fun _ cs x hl h => struct_cells Try.underlying3 Try.underlying26 (by kernel_rfl) (by simp) (by kernel_rfl) _ cs x hl h) hf
  clear hA0 hval0
  refine (walk a0 len0 cap0 l0 W w0 e0 b0).mono fun e W' ⟨he, bel⟩ => ?_
  subst he
  exact ⟨_, rfl, _, _, _, [], _, [], hW', trodAll_mk1 (shut_bool Try.underlying4 _), (trodAll_cons_mk (Below.trod laidOut (by kernel_rfl) (of_decide_eq_true (by kernel_rfl)) k0 bel lt0) trodAll_mk0), rfl, bel.frame _, fun h => by cases h⟩

theorem over : Rows.itemTellsRow.holds Try.pinned (OpenSpec.ofChange Rows.itemTellsSpec) :=
  OpenClaim.holds_of_wide 3 Try.f3 rfl rfl rfl rfl rfl rfl rfl ⟨rfl, rfl, rfl, rfl, rfl⟩ rfl rfl rfl rfl rfl (by kernel_rfl) Try.func3 (by kernel_rfl)
    (of_decide_eq_true (by kernel_rfl)) (by unfold Func.isWrapper; first | (rw [if_pos (by decide +kernel)]; kernel_rfl) | (rw [if_neg (by decide +kernel)]; exact ⟨rfl, rfl⟩))
    (fun os started H enc _ => lifted os started H enc)

/-- The statement. -/
theorem proved : Rows.ItemTellsSaid := over
#print axioms proved
end Go.Proofs.Ytbghkfjjmgmjmaa.itemTells

