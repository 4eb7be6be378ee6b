/-
  The given statement DiskSafeSaid is proved: whatever the arguments are, the law returns true and leaves its input as it was. No conditions.
-/
import Derived.Test.YteobkgajebbpaaaOpen
import Derived.Test.YteobkgajebbpaaaDiskMine
import Derived.Test.YteobkgajebbpaaaDiskSafeM
import Derived.Test.YteobkgajebbpaaaDiskAwake
import Derived.Test.YteobkgajebbpaaaDiskSums
import Derived.WalkKit
import Derived.ProofKit
import Derived.OpenShut
import Derived.ShutString
import Derived.ChangeOld
import Derived.Below
namespace Go.Proofs.Yteobkgajebbpaaa.diskSafe
open Go.ChangeShapes Go.WideShapes Go.ChangeAt Go.RowKit
open Go.ChangeMaps (open_string shut_string)
open Go.Proofs.Yteobkgajebbpaaa.mem Go.Proofs.Yteobkgajebbpaaa.base Go.Proofs.Yteobkgajebbpaaa.disk Go.Proofs.Yteobkgajebbpaaa.shelf
set_option linter.unusedVariables false

theorem own : ownKnob Try.prog.godebug = none := by kernel_rfl
theorem laidOut : laidOutB Try.prog = true := by kernel_rfl

theorem step_write (w0 : World) (F : List Nat) (p : Nat) (D : Dk) (x : Int) (A : Option Addr) (n c : Nat) (bs : List UInt8) (k : Int) (D' : Dk) (w : World) (h : Mine w0 w F p D) (hb : D.acts < 1000000) (hv : Vals w F A (bs.map B)) (hl : bs.length = n) (hr : D.write x bs = (k, D')) :
    Calls Try.prog 12 #[.pointer (some ⟨p, 0, none⟩), .int .i64 x, .slice A n c] w fun e w' => e = .returned (.int .i64 k) ∧ ∃ F', Mine w0 w' F' p D' ∧ Step w F w' F' :=
  (write_at p F D x A n c bs w h.1 hb hv hl).mono fun e w' ⟨he, ht⟩ => by
    rw [hr] at he ht
    obtain ⟨F', hv', hs, hk⟩ := ht
    have hsz := h.2.2.size
    exact ⟨he, F', ⟨hv', fun y hy => by
      rcases hs y hy with h1 | h1
      · exact h.2.1 y h1
      · omega, h.2.2.trans hk (fun y hy => .inr (h.2.1 y hy))⟩, ⟨hk, hs⟩⟩
theorem step_flush (w0 : World) (F : List Nat) (p : Nat) (D : Dk) (k : Int) (D' : Dk) (w : World) (h : Mine w0 w F p D) (hb : D.acts < 1000000) (hr : D.flush = (k, D')) :
    Calls Try.prog 15 #[.pointer (some ⟨p, 0, none⟩)] w fun e w' => e = .returned (.int .i64 k) ∧ ∃ F', Mine w0 w' F' p D' ∧ Step w F w' F' :=
  (flush_at p F D w h.1 hb).mono fun e w' ⟨he, ht⟩ => by
    rw [hr] at he ht
    obtain ⟨F', hv', hs, hk⟩ := ht
    have hsz := h.2.2.size
    exact ⟨he, F', ⟨hv', fun y hy => by
      rcases hs y hy with h1 | h1
      · exact h.2.1 y h1
      · omega, h.2.2.trans hk (fun y hy => .inr (h.2.1 y hy))⟩, ⟨hk, hs⟩⟩

/-- The bytes of a new slice. -/
def Z64 : List UInt8 := List.replicate 64 0
theorem made_sl (w : World) (F : List Nat) (hF : ∀ x ∈ F, x < w.heap.size) : Sl (w.alloc (.cells (madeCells #[.int .u8 0] 64) 5)) F (.slice (some ⟨w.heap.size, 0, none⟩) 64 64) Z64 :=
  ⟨_, rfl, ⟨_, Blk.new _ _ _, by rw [size_madeCells], by simp [Z64], fun k y hy => by
    simp only [Z64, List.getElem?_replicate] at hy
    split at hy
    · rename_i hk
      injection hy with hy
      subst hy
      exact made_B 64 k hk
    · cases hy⟩, by simp [Z64], fun hm => by have := hF _ hm; omega⟩
theorem upd_same {α : Type} (k : Nat) (x : α) : upd (fun _ => x) k x = fun _ => x := by
  funext i
  unfold upd
  split <;> rfl
theorem bo_lt {w : World} {F : List Nat} {b m : Nat} {os : Nat → List UInt8} (h : Old w F b m os) : b < w.heap.size := by
  obtain ⟨cs, hb, _⟩ := h
  exact hb.lt

theorem wpAnyH_one {P : Program} {md : Region.Mode} {ops : Array Oper} {Q : Exit → Act → World → Prop} {S : World → Prop} {fuel : Nat} {listed : Array Bool} {a : Act} {w : World} {i : Nat} {o : Oper} (hr : Region.ready md ops listed = [i]) (ho : ops[i]? = some o) (hw : Region.wanted o (yielded ops a.tmps) = true)
    (h : ∀ K : Act → World → Prop, (∀ a w, S w → wpAnyH P md ops Q S fuel (listed.setIfInBounds i true) a w → K a w) → Oper.wp P o a w K Q) : wpAnyH P md ops Q S (fuel + 1) listed a w :=
  wpAnyH_all hr (by simp) (fun j hj => by
    simp at hj
    subst hj
    unfold wpOp
    simp only [ho, hw, if_true]
    exact .inl (h _ (fun _ _ h1 h2 => ⟨h1, h2⟩)))
theorem wpAnyH_two {P : Program} {md : Region.Mode} {ops : Array Oper} {Q : Exit → Act → World → Prop} {S : World → Prop} {fuel : Nat} {listed : Array Bool} {a : Act} {w : World} {i j : Nat} {o o' : Oper} (hr : Region.ready md ops listed = [i, j]) (ho : ops[i]? = some o) (hw : Region.wanted o (yielded ops a.tmps) = true)
    (ho' : ops[j]? = some o') (hw' : Region.wanted o' (yielded ops a.tmps) = true)
    (h : ∀ K : Act → World → Prop, (∀ a w, S w → wpAnyH P md ops Q S fuel (listed.setIfInBounds i true) a w → K a w) → Oper.wp P o a w K Q)
    (h' : ∀ K : Act → World → Prop, (∀ a w, S w → wpAnyH P md ops Q S fuel (listed.setIfInBounds j true) a w → K a w) → Oper.wp P o' a w K Q) : wpAnyH P md ops Q S (fuel + 1) listed a w :=
  wpAnyH_all hr (by simp) (fun k hk => by
    simp at hk
    rcases hk with rfl | rfl
    · unfold wpOp
      simp only [ho, hw, if_true]
      exact .inl (h _ (fun _ _ h1 h2 => ⟨h1, h2⟩))
    · unfold wpOp
      simp only [ho', hw', if_true]
      exact .inl (h' _ (fun _ _ h1 h2 => ⟨h1, h2⟩)))

set_option linter.unusedSimpArgs false
set_option maxRecDepth 100000 in
set_option maxHeartbeats 2000000 in
theorem walk_in (a0 : Option Addr) (n0 c0 : Nat) (l0 : List Int) (a1 : Option Addr) (n1 c1 : Nat) (l1 : List Int) (a2 : Option Addr) (n2 c2 : Nat) (l2 : List Int) (w : World)
    (hv0 : Vals w [] a0 (l0.map I)) (hl0 : l0.length = n0) (hm0 : n0 ≤ 30) (hv1 : Vals w [] a1 (l1.map I)) (hl1 : l1.length = n1) (hm1 : n1 ≤ 30) (hv2 : Vals w [] a2 (l2.map I)) (hl2 : l2.length = n2) (hm2 : n2 ≤ 60) :
    Calls Try.prog 4 #[.slice a0 n0 c0, .slice a1 n1 c1, .slice a2 n2 c2] w fun e w' => e = .returned (.bool true) ∧ Below w.heap.size w w' := by
  have HV0 := hide hv0
  have HL0 := hide hl0
  have HV1 := hide hv1
  have HL1 := hide hl1
  have HV2 := hide hv2
  have HL2 := hide hl2
  clear hv0 hl0 hv1 hl1 hv2 hl2
  have hmk : ∀ w : World, (Instr.makeSlice 34 (.int .i64 64) (.int .i64 64)).run Try.prog w = .ok (.slice (some ⟨w.heap.size, 0, none⟩) 64 64) (w.alloc (.cells (madeCells #[.int .u8 0] 64) 5)) :=
    run_make_row' (P := Try.prog) 34 5 (.int .u8 0) 1 (by kernel_rfl) (by kernel_rfl) rfl .i64 .i64 64 (by omega) (by omega)
  have HZ : Hid (∀ (w : World) (F : List Nat), (∀ x ∈ F, x < w.heap.size) → Sl (w.alloc (.cells (madeCells #[.int .u8 0] 64) 5)) F (.slice (some ⟨w.heap.size, 0, none⟩) 64 64) Z64) := hide made_sl
  generalize madeCells #[Value.int .u8 0] 64 = Z at hmk HZ
  go_enter Try.func4, Try.ntmps4
  go_wp2_with fail
  refine (mine_new _ 8 w _ (by omega) (Kept.refl _ _) (by omega) (by omega)).mono ?_
  rintro e w1 ⟨F, p, rfl, hmi⟩
  have HM := hide hmi
  have HU := hide up_new
  have HS0 := hide sec_new
  clear hmi
  generalize Dk.new 8 = D0 at *
  go_wp2
  have HO : Hid (Old ((w1.alloc (.cells #[.slice none 0 0, .slice none 0 0, .slice none 0 0, .slice none 0 0, .slice none 0 0, .slice none 0 0, .slice none 0 0, .slice none 0 0] 57)).alloc (.cells #[.slice none 0 0, .slice none 0 0, .slice none 0 0, .slice none 0 0, .slice none 0 0, .slice none 0 0, .slice none 0 0, .slice none 0 0] 57)) F w1.heap.size 0 (fun _ => Z64)) := hide ((Old.new w1 F _ _ rfl HM.out.1.lt).kept0 ((Kept.refl [] _).alloc _))
  have HN : Hid (Old ((w1.alloc (.cells #[.slice none 0 0, .slice none 0 0, .slice none 0 0, .slice none 0 0, .slice none 0 0, .slice none 0 0, .slice none 0 0, .slice none 0 0] 57)).alloc (.cells #[.slice none 0 0, .slice none 0 0, .slice none 0 0, .slice none 0 0, .slice none 0 0, .slice none 0 0, .slice none 0 0, .slice none 0 0] 57)) F (w1.heap.size + 1) 0 (fun _ => [])) := hide (by
    have := Old.new (w1.alloc (.cells #[.slice none 0 0, .slice none 0 0, .slice none 0 0, .slice none 0 0, .slice none 0 0, .slice none 0 0, .slice none 0 0, .slice none 0 0] 57)) F (fun _ => []) #[.slice none 0 0, .slice none 0 0, .slice none 0 0, .slice none 0 0, .slice none 0 0, .slice none 0 0, .slice none 0 0, .slice none 0 0] rfl (HM.out.alloc _).1.lt
    simpa using this)
  have HM1 := hide ((HM.out.alloc (.cells #[.slice none 0 0, .slice none 0 0, .slice none 0 0, .slice none 0 0, .slice none 0 0, .slice none 0 0, .slice none 0 0, .slice none 0 0] 57)).alloc (.cells #[.slice none 0 0, .slice none 0 0, .slice none 0 0, .slice none 0 0, .slice none 0 0, .slice none 0 0, .slice none 0 0, .slice none 0 0] 57))
  have HBO : Hid (w.heap.size ≤ w1.heap.size) := hide HM.out.2.2.size
  have HBN : Hid (w.heap.size ≤ w1.heap.size + 1) := hide (by have := HM.out.2.2.size; omega)
  have HNE : Hid (w1.heap.size ≠ w1.heap.size + 1) := hide (by omega)
  clear HM
  generalize w1.heap.size + 1 = bn at *
  generalize w1.heap.size = bo at *
  generalize (w1.alloc (.cells #[.slice none 0 0, .slice none 0 0, .slice none 0 0, .slice none 0 0, .slice none 0 0, .slice none 0 0, .slice none 0 0, .slice none 0 0] 57)).alloc (.cells #[.slice none 0 0, .slice none 0 0, .slice none 0 0, .slice none 0 0, .slice none 0 0, .slice none 0 0, .slice none 0 0, .slice none 0 0] 57) = w2 at *
  go_loopw [11] (fun i wr => ∃ k : Nat, k ≤ 8 ∧ i = .int .i64 k ∧ Hid (Mine w wr F p D0) ∧ Hid (Old wr F bo k (fun _ => Z64)) ∧ Hid (Old wr F bn 0 (fun _ => []))) (fun i wr => 8 - (intOf i).toNat)
  case atStart => exact ⟨0, Nat.zero_le _, rfl, HM1, HO, HN⟩
  case round =>
    obtain ⟨k, hk, rfl, HMR, HOR, HNR⟩ := hrel
    clear HM1 HO HN
    by_cases hlt : k < 8
    · have HM2 := hide (HMR.out.alloc (.cells Z 5))
      have HO2 := hide (HOR.out.kept0 ((Kept.refl [] _).alloc (.cells Z 5)))
      have HN2 := hide (HNR.out.kept0 ((Kept.refl [] _).alloc (.cells Z 5)))
      have HSl := hide (HZ.out wr F HMR.out.1.lt)
      obtain ⟨⟨u0, q1⟩, q2⟩ := HO2.out.any hlt
      have gg1 : (0 : Int) ≤ k := by omega
      have gg2 : (k : Int) < 8 := by omega
      have HST : Hid (Mine w ((wr.alloc (.cells Z 5)).setCell ⟨bo, k, none⟩ (.slice (some ⟨wr.heap.size, 0, none⟩) 64 64)) F p D0 ∧ Old ((wr.alloc (.cells Z 5)).setCell ⟨bo, k, none⟩ (.slice (some ⟨wr.heap.size, 0, none⟩) 64 64)) F bo (k + 1) (fun _ => Z64) ∧ Old ((wr.alloc (.cells Z 5)).setCell ⟨bo, k, none⟩ (.slice (some ⟨wr.heap.size, 0, none⟩) 64 64)) F bn 0 (fun _ => [])) :=
        hide ⟨HO2.out.mine HBO.out HM2.out k _, by
          have := HO2.out.put (m' := k + 1) HSl.out hlt (fun i hi => by omega)
          rw [upd_same] at this
          exact this, HN2.out.other HO2.out (Ne.symm HNE.out) k _⟩
      clear HM2 HO2 HN2 HSl HMR HOR HNR
      go_wp2
      exact ⟨⟨k + 1, by omega, by go_num, hide HST.out.1, hide HST.out.2.1, hide HST.out.2.2⟩, by simp [intOf]; omega⟩
    · have hk8 : k = 8 := by omega
      rw [hk8] at HOR
      clear hk8 hk
      have HSN : Hid (∀ j, j < 8 → sec D0.now j = (fun _ => Z64) j) := hide (fun j hj => HS0.out j hj)
      generalize (fun (_ : Nat) => Z64) = os0 at *
      generalize wr = w3 at *
      go_wp2
      clear hlt
      go_loopw [12] (fun i wr => ∃ (t : Nat) (F : List Nat) (D : Dk) (os : Nat → List UInt8), t ≤ n0 ∧ i = .int .i64 t ∧ Hid (Up D t) ∧ Hid (Mine w wr F p D) ∧ Hid (Old wr F bo 8 os) ∧ Hid (∀ j, j < 8 → sec D.now j = os j) ∧ Hid (Old wr F bn 0 (fun _ => []))) (fun i wr => n0 - (intOf i).toNat)
      case atStart => exact ⟨0, F, D0, os0, Nat.zero_le _, rfl, HU, HMR, HOR, HSN, HNR⟩
      case round =>
        obtain ⟨t, F, D, os, ht, rfl, HUR, HMR, HOR, HSR, HNR⟩ := hrel
        clear HU HSN HS0
        have hact : D.acts < 1000000 := by have := HUR.out.acts; omega
        by_cases hlt : t < n0
        · have hkl : t < l0.length := by rw [HL0.out]; exact hlt
          obtain ⟨ad, rfl, _, hc0⟩ := (HV0.out.kept HMR.out.2.2 (by simp)) t (I l0[t]) (by rw [List.getElem?_map, List.getElem?_eq_getElem hkl]; rfl)
          unfold I at hc0
          generalize l0[t] = xx at hc0
          clear hkl
          go_wp2_with fail
          refine (round_any xx 8 _ (by omega) (by omega)).mono ?_
          rintro e w9 ⟨rfl, rfl⟩
          clear hc0
          obtain ⟨r, hr⟩ : ∃ r : Nat, xx % 8 = r := ⟨(xx % 8).toNat, by omega⟩
          have hr8 : r < 8 := by omega
          rw [hr]
          clear hr
          obtain ⟨D', hw, hu', _, _, hs'⟩ := up_write HUR.out hr8 (fillOf_length ((t : Int) + 1))
          have E1 := hide hw
          have HU' := hide hu'
          have HS' : Hid (∀ j, j < 8 → sec D'.now j = upd os r (fillOf ((t : Int) + 1)) j) := hide (fun j hj => by
            rcases hs' j with h | h
            · rw [h]
              unfold upd
              split
              · rfl
              · exact HSR.out j hj
            · omega)
          clear hw hu' hs'
          go_wp2_with fail
          refine (fill_any ((t : Int) + 1) _).mono ?_
          rintro e w5 ⟨g5, rfl, hg5, ha5, hk5⟩
          have HM5 := hide (HMR.out.kept hk5)
          have HO5 := hide (HOR.out.kept0 hk5)
          have HN5 := hide (HNR.out.kept0 hk5)
          have HSl : Hid (Sl w5 F (.slice (some ⟨g5, 0, none⟩) 64 64) (fillOf ((t : Int) + 1))) := hide ⟨g5, rfl, ha5, fillOf_length _, fun hm => by have := HMR.out.1.lt _ hm; omega⟩
          clear ha5 hk5 hg5 HMR HOR HNR HSR HUR
          obtain ⟨⟨u0, q1⟩, q2⟩ := HO5.out.any hr8
          have gg1 : (0 : Int) ≤ r := by omega
          have gg2 : (r : Int) < 8 := by omega
          have HST : Hid (Mine w (w5.setCell ⟨bo, r, none⟩ (.slice (some ⟨g5, 0, none⟩) 64 64)) F p D ∧ Old (w5.setCell ⟨bo, r, none⟩ (.slice (some ⟨g5, 0, none⟩) 64 64)) F bo 8 (upd os r (fillOf ((t : Int) + 1))) ∧ Old (w5.setCell ⟨bo, r, none⟩ (.slice (some ⟨g5, 0, none⟩) 64 64)) F bn 0 (fun _ => []) ∧ Vals (w5.setCell ⟨bo, r, none⟩ (.slice (some ⟨g5, 0, none⟩) 64 64)) F (some ⟨g5, 0, none⟩) ((fillOf ((t : Int) + 1)).map B)) :=
            hide ⟨HO5.out.mine HBO.out HM5.out r _, HO5.out.put HSl.out hr8 (fun i hi => .inr hi), HN5.out.other HO5.out (Ne.symm HNE.out) r _, by
              have hks : Kept [bo] w5 (w5.setCell ⟨bo, r, none⟩ (.slice (some ⟨g5, 0, none⟩) 64 64)) := (Kept.refl [bo] w5).set_ (.inl (by simp)) _ _
              obtain ⟨g, he, ha, _, hn⟩ := HSl.out.keptT hks HO5.out.noBytes
              injection he with he
              injection he with he
              injection he with he
              subst he
              exact ha.vals hn⟩
          have q3 : (w5.setCell ⟨bo, r, none⟩ (.slice (some ⟨g5, 0, none⟩) 64 64)).cell? ⟨bo, r, none⟩ = some (.slice (some ⟨g5, 0, none⟩) 64 64) := HO5.out.cell_put hr8 _
          clear HM5 HO5 HN5 HSl
          go_wp2_with fail
          refine (step_write w F p D r (some ⟨g5, 0, none⟩) 64 64 (fillOf ((t : Int) + 1)) 0 D' _ HST.out.1 hact HST.out.2.2.2 (fillOf_length _) E1.out).mono ?_
          rintro e w6 ⟨rfl, F', hm6, hst⟩
          have HM6 := hide hm6
          have HO6 := hide (HST.out.2.1.step hst)
          have HN6 := hide (HST.out.2.2.1.step hst)
          clear hm6 hst HST q1 q2 q3
          go_wp2
          exact ⟨⟨t + 1, F', D', _, by omega, by go_num, HU', HM6, HO6, HS', HN6⟩, by simp [intOf]; omega⟩
        · obtain rfl : t = n0 := by omega
          obtain ⟨D1, hw, hu1, hs1, hh1⟩ := up_flush HUR.out
          have E1 := hide hw
          go_wp2_with fail
          refine (step_flush w F p D 0 D1 _ HMR.out hact E1.out).mono ?_
          rintro e w5 ⟨rfl, F', hm5, hst⟩
          have HM5 := hide hm5
          have HO5 := hide (HOR.out.step hst)
          have HN5 := hide (HNR.out.step hst)
          have HU5 := hide hu1
          have HS5 : Hid (∀ j, j < 8 → sec D1.safe j = os j) := hide (fun j hj => by rw [hs1]; exact HSR.out j hj)
          have HH5 : Hid (D1.held = []) := hide hh1
          clear hm5 hst hu1 hs1 hh1 hw E1 HMR HOR HNR HSR HUR
          have HA5 : Hid (Among w.heap.size (w5.alloc (.cells #[.slice none 0 0, .slice none 0 0, .slice none 0 0, .slice none 0 0, .slice none 0 0, .slice none 0 0, .slice none 0 0, .slice none 0 0] 58)) F' w5.heap.size (fun j => heldOf j D1.held)) := hide (by rw [HH5.out]; exact Among.new w5 F' HM5.out.1.lt)
          have HM6 := hide (HM5.out.alloc (.cells #[.slice none 0 0, .slice none 0 0, .slice none 0 0, .slice none 0 0, .slice none 0 0, .slice none 0 0, .slice none 0 0, .slice none 0 0] 58))
          have HO6 := hide (HO5.out.kept0 ((Kept.refl [] _).alloc (.cells #[.slice none 0 0, .slice none 0 0, .slice none 0 0, .slice none 0 0, .slice none 0 0, .slice none 0 0, .slice none 0 0, .slice none 0 0] 58)))
          have HN6 := hide (HN5.out.kept0 ((Kept.refl [] _).alloc (.cells #[.slice none 0 0, .slice none 0 0, .slice none 0 0, .slice none 0 0, .slice none 0 0, .slice none 0 0, .slice none 0 0, .slice none 0 0] 58)))
          have HBM : Hid (w.heap.size ≤ w5.heap.size) := hide HM5.out.2.2.size
          have HHL : Hid (∀ j, (heldOf j D1.held).length ≤ 0) := hide (fun j => by rw [HH5.out]; exact Nat.le_refl _)
          clear HH5 HM5 HO5 HN5
          go_wp2
          generalize w5.heap.size = bm at *
          generalize w5.alloc (.cells #[.slice none 0 0, .slice none 0 0, .slice none 0 0, .slice none 0 0, .slice none 0 0, .slice none 0 0, .slice none 0 0, .slice none 0 0] 58) = w6 at *
          have ht30 : t ≤ 30 := by assumption
          obtain ⟨a5, ha5⟩ : ∃ a, t + 1 = a := ⟨_, rfl⟩
          have ha31 : a5 ≤ 31 := by omega
          rw [ha5] at HU5
          clear ha5 hlt ht
          generalize F' = F at *
          generalize t = n0 at *
          go_loopw [15] (fun i wr => ∃ (t : Nat) (F : List Nat) (D : Dk), t ≤ n1 ∧ i = .int .i64 t ∧ Hid (Up D (a5 + t)) ∧ Hid (Mine w wr F p D) ∧ Hid (Old wr F bo 8 os) ∧ Hid (∀ j, j < 8 → sec D.safe j = os j) ∧ Hid (Old wr F bn 0 (fun _ => [])) ∧ Hid (Among w.heap.size wr F bm (fun j => heldOf j D.held)) ∧ Hid (∀ j, (heldOf j D.held).length ≤ t)) (fun i wr => n1 - (intOf i).toNat)
          case atStart => exact ⟨0, F, D1, Nat.zero_le _, rfl, HU5, HM6, HO6, HS5, HN6, HA5, HHL⟩
          case round =>
            obtain ⟨t, F, D, ht, rfl, HUR, HMR, HOR, HSR, HNR, HAR, HHR⟩ := hrel
            clear HU5 HM6 HO6 HS5 HN6 HA5 HHL
            have hact : D.acts < 1000000 := by have := HUR.out.acts; omega
            by_cases hlt : t < n1
            · have hkl : t < l1.length := by rw [HL1.out]; exact hlt
              obtain ⟨ad, rfl, _, hc0⟩ := (HV1.out.kept HMR.out.2.2 (by simp)) t (I l1[t]) (by rw [List.getElem?_map, List.getElem?_eq_getElem hkl]; rfl)
              unfold I at hc0
              generalize l1[t] = xx at hc0
              clear hkl
              go_wp2_with fail
              refine (round_any xx 8 _ (by omega) (by omega)).mono ?_
              rintro e w9 ⟨rfl, rfl⟩
              clear hc0
              obtain ⟨r, hr⟩ : ∃ r : Nat, xx % 8 = r := ⟨(xx % 8).toNat, by omega⟩
              have hr8 : r < 8 := by omega
              rw [hr]
              clear hr
              obtain ⟨f, hf⟩ : ∃ f, fillOf (100 + (t : Int)) = f := ⟨_, rfl⟩
              have HFL : Hid (f.length = 64) := hide (by rw [← hf]; exact fillOf_length _)
              obtain ⟨D', hw, hu', hsf', hh', hs'⟩ := up_write HUR.out hr8 HFL.out
              have E1 := hide hw
              have HU' := hide hu'
              have HS' : Hid (∀ j, j < 8 → sec D'.safe j = os j) := hide (fun j hj => by rw [hsf']; exact HSR.out j hj)
              have HH' : Hid ((fun j => heldOf j D'.held) = upd (fun j => heldOf j D.held) r (heldOf r D.held ++ [f])) := hide (by
                funext j
                rw [hh', heldOf_snoc]
                unfold upd
                split
                · rename_i e; rw [e]
                · rfl)
              have HHL' : Hid (∀ j, (heldOf j D'.held).length ≤ t + 1) := hide (fun j => by
                rw [hh', heldOf_snoc]
                have := HHR.out j
                split
                · simp; omega
                · omega)
              clear hw hu' hs' hsf' hh'
              go_wp2_with fail
              refine (fill_any (100 + (t : Int)) _).mono ?_
              rintro e w5 ⟨g5, rfl, hg5, ha5, hk5⟩
              rw [hf] at ha5
              clear hf
              have HM5 := hide (HMR.out.kept hk5)
              have HO5 := hide (HOR.out.kept0 hk5)
              have HN5 := hide (HNR.out.kept0 hk5)
              have HA5 := hide (HAR.out.kept0 hk5)
              have HSl : Hid (Sl w5 F (.slice (some ⟨g5, 0, none⟩) 64 64) f) := hide ⟨g5, rfl, ha5, HFL.out, fun hm => by have := HMR.out.1.lt _ hm; omega⟩
              clear ha5 hk5 hg5 HMR HOR HNR HSR HUR HAR
              obtain ⟨⟨u0, q1⟩, q2⟩ := HN5.out.any hr8
              have gg1 : (0 : Int) ≤ r := by omega
              have gg2 : (r : Int) < 8 := by omega
              have HST : Hid (Mine w (w5.setCell ⟨bn, r, none⟩ (.slice (some ⟨g5, 0, none⟩) 64 64)) F p D ∧ Old (w5.setCell ⟨bn, r, none⟩ (.slice (some ⟨g5, 0, none⟩) 64 64)) F bo 8 os ∧ Old (w5.setCell ⟨bn, r, none⟩ (.slice (some ⟨g5, 0, none⟩) 64 64)) F bn 0 (fun _ => []) ∧ Among w.heap.size (w5.setCell ⟨bn, r, none⟩ (.slice (some ⟨g5, 0, none⟩) 64 64)) F bm (fun j => heldOf j D.held) ∧ Sl (w5.setCell ⟨bn, r, none⟩ (.slice (some ⟨g5, 0, none⟩) 64 64)) F (.slice (some ⟨g5, 0, none⟩) 64 64) f) :=
                hide ⟨HN5.out.mine HBN.out HM5.out r _, HO5.out.other HN5.out HNE.out r _, HN5.out.put0 HSl.out hr8, HA5.out.other HN5.out r _, HSl.out.keptT ((Kept.refl [bn] w5).set_ (b := bn) (.inl (by simp)) r (.slice (some ⟨g5, 0, none⟩) 64 64)) HN5.out.noBytes⟩
              have q4 : (w5.setCell ⟨bn, r, none⟩ (.slice (some ⟨g5, 0, none⟩) 64 64)).cell? ⟨bn, r, none⟩ = some (.slice (some ⟨g5, 0, none⟩) 64 64) := HN5.out.cell_put hr8 _
              clear HM5 HO5 HN5 HA5 HSl
              go_wp2
              generalize w5.setCell ⟨bn, r, none⟩ (.slice (some ⟨g5, 0, none⟩) 64 64) = w6 at *
              obtain ⟨v, m1, ⟨RA, rc, rxs, rfl, how, hra, hrx⟩, _⟩ := HST.out.2.2.2.1.get hr8
              obtain ⟨RN, hRN⟩ : ∃ n, (heldOf r D.held).length = n := ⟨_, rfl⟩
              have HRN : Hid (((fun j => heldOf j D.held) r).length = RN) := hide hRN
              have hRN30 : RN ≤ 30 := by have := HHR.out r; omega
              rw [hRN] at m1 how
              clear hRN hra
              have K7 : Kept [] w6 (w6.drew.alloc (.cells #[.slice (some ⟨g5, 0, none⟩) 64 64] 34)) := ((Kept.refl [] w6).drew).alloc _
              have HM7 := hide (HST.out.1.kept K7)
              have HO7 := hide (HST.out.2.1.kept0 K7)
              have HN7 := hide (HST.out.2.2.1.kept0 K7)
              have HAM := hide (HST.out.2.2.2.1.kept0 K7)
              have HSl7 := hide (HST.out.2.2.2.2.step (.of_kept K7))
              have m2 := K7.cell m1 (by simp)
              have q5 := K7.cell q4 (by simp)
              have HOW := hide (own_kept how K7 (fun g _ => by simp))
              have HRX : Hid (∀ (i : Nat) (y : List UInt8), ((fun j => heldOf j D.held) r)[i]? = some y → ∃ u, rxs[i]? = some u ∧ Sl (w6.drew.alloc (.cells #[.slice (some ⟨g5, 0, none⟩) 64 64] 34)) F u y) := hide (fun i y hi => by obtain ⟨u, hu, hl⟩ := hrx i y hi; exact ⟨u, hu, hl.step (.of_kept K7)⟩)
              have HLT : Hid (∀ y ∈ F, y < (w6.drew.alloc (.cells #[.slice (some ⟨g5, 0, none⟩) 64 64] 34)).heap.size) := hide HM7.out.1.lt
              have HB7 : Hid (w.heap.size ≤ (w6.drew.alloc (.cells #[.slice (some ⟨g5, 0, none⟩) 64 64] 34)).heap.size) := hide HM7.out.2.2.size
              have V7 : Hid (Vals (w6.drew.alloc (.cells #[.slice (some ⟨g5, 0, none⟩) 64 64] 34)) [] (some ⟨w6.heap.size, 0, none⟩) [.slice (some ⟨g5, 0, none⟩) 64 64]) := hide (Vals.blk 0 (Blk.new w6.drew _ _) (by simp) (fun i v hv => by rw [Nat.zero_add]; simpa using hv))
              clear HST how hrx K7
              refine wp_region_noPanic ?_
              refine wp_region_held_drew (S := fun _ => True) (by kernel_rfl) trivial (fun hHeld => ?_)
              clear hHeld
              refine wpAnyH_take (i := 0) (oi := ⟨some 97, .move (.tmp 16), _, _, _, none⟩) (v := Value.int .i64 (r : Int)) rfl (by kernel_rfl) (by kernel_rfl) (by kernel_rfl) (fun _ _ _ h => h) (Or.inl ⟨by rfl, ?_⟩) (by trivial) ?_
              · intro W hSW
                go_simp
              try simp only [Act.put, List.setIfInBounds_toArray, List.set_cons_zero, List.set_cons_succ]
              refine wpAnyH_take (i := 1) (oi := ⟨some 98, .move (.tmp 16), _, _, _, none⟩) (v := Value.int .i64 (r : Int)) rfl (by kernel_rfl) (by kernel_rfl) (by kernel_rfl) (fun _ _ _ h => h) (Or.inl ⟨by rfl, ?_⟩) (by trivial) ?_
              · intro W hSW
                go_simp
              try simp only [Act.put, List.setIfInBounds_toArray, List.set_cons_zero, List.set_cons_succ]
              refine wpAnyH_take (i := 2) (oi := ⟨some 99, .indexAddr 58 (.tmp 14) (.tmp 98), _, _, _, none⟩) (v := Value.pointer (some ⟨bm, r, none⟩)) rfl (by kernel_rfl) (by kernel_rfl) (by kernel_rfl) (fun _ _ _ h => h) (Or.inl ⟨by rfl, ?_⟩) (by trivial) ?_
              · intro W hSW
                go_simp
              try simp only [Act.put, List.setIfInBounds_toArray, List.set_cons_zero, List.set_cons_succ]
              refine wpAnyH_take (i := 4) (oi := ⟨some 101, .move (.tmp 16), _, _, _, none⟩) (v := Value.int .i64 (r : Int)) rfl (by kernel_rfl) (by kernel_rfl) (by kernel_rfl) (fun _ _ _ h => h) (Or.inl ⟨by rfl, ?_⟩) (by trivial) ?_
              · intro W hSW
                go_simp
              try simp only [Act.put, List.setIfInBounds_toArray, List.set_cons_zero, List.set_cons_succ]
              refine wpAnyH_take (i := 5) (oi := ⟨some 102, .indexAddr 57 (.tmp 10) (.tmp 101), _, _, _, none⟩) (v := Value.pointer (some ⟨bn, r, none⟩)) rfl (by kernel_rfl) (by kernel_rfl) (by kernel_rfl) (fun _ _ _ h => h) (Or.inl ⟨by rfl, ?_⟩) (by trivial) ?_
              · intro W hSW
                go_simp
              try simp only [Act.put, List.setIfInBounds_toArray, List.set_cons_zero, List.set_cons_succ]
              refine wpAnyH_two (i := 3) (j := 6) (o := ⟨some 100, .load 51 (.tmp 99), _, _, _, none⟩) (o' := ⟨some 103, .load 34 (.tmp 102), _, _, _, none⟩) (by kernel_rfl) rfl (by rfl) rfl (by rfl) (fun K hK => ?_) (fun K hK => ?_)
              · go_simp
                refine hK _ _ trivial ?_
                clear hK K
                try simp only [Act.put, List.setIfInBounds_toArray, List.set_cons_zero, List.set_cons_succ]
                refine wpAnyH_one (i := 6) (o := ⟨some 103, .load 34 (.tmp 102), _, _, _, none⟩) (by kernel_rfl) rfl (by rfl) (fun K hK => ?_)
                go_simp
                refine hK _ _ trivial ?_
                clear hK K
                try simp only [Act.put, List.setIfInBounds_toArray, List.set_cons_zero, List.set_cons_succ]
                refine wpAnyH_one (i := 7) (o := ⟨some 104, .buildSlice 51 1 #[(0, .tmp 103)], _, _, _, none⟩) (by kernel_rfl) rfl (by rfl) (fun K hK => ?_)
                go_simp
                refine hK _ _ trivial ?_
                clear hK K
                try simp only [Act.put, List.setIfInBounds_toArray, List.set_cons_zero, List.set_cons_succ]
                refine wpAnyH_one (i := 8) (o := ⟨some 105, .call { callee := .builtin .append, args := #[.tmp 100, .tmp 104], argTypes := #[51, 51] }, _, _, _, none⟩) (by kernel_rfl) rfl (by rfl) (fun K hK => ?_)
                refine wp_append_vals (.tmp 100) (.tmp 104) 51 rfl 0 34 (.slice none 0 0) 1 24 Try.underlying51 slice_info2 rfl (by omega) (.slice RA RN rc) RN rxs (by go_simp) HOW.out [] (some ⟨w6.heap.size, 0, none⟩) 1 1 [.slice (some ⟨g5, 0, none⟩) 64 64] (by go_simp) rfl V7.out (oneCell_sl2 g5) (by simp only [maxLen]; omega) (by omega) (Nat.zero_le _) ?_
                intro v8 w8 hown8 hk8 hat8
                obtain ⟨A8, c8, rfl, _⟩ := own_slice hown8
                have HP := hide (HAM.out.push hr8 m2 HRN.out HRX.out HOW.out HLT.out HB7.out HBM.out hown8 hk8 hat8 HSl7.out)
                clear hown8 hk8 hat8
                obtain ⟨⟨u8, q8⟩, q9, _⟩ := HP.out.2.2.2
                refine hK _ _ trivial ?_
                clear hK K
                try simp only [Act.put, List.setIfInBounds_toArray, List.set_cons_zero, List.set_cons_succ]
                refine wpAnyH_take (i := 9) (oi := ⟨some 106, .indexAddr 58 (.tmp 14) (.tmp 97), _, _, _, none⟩) (v := Value.pointer (some ⟨bm, r, none⟩)) rfl (by kernel_rfl) (by kernel_rfl) (by kernel_rfl) (fun _ _ _ h => h) (Or.inl ⟨by rfl, ?_⟩) (by trivial) ?_
                · intro W hSW
                  go_simp
                try simp only [Act.put, List.setIfInBounds_toArray, List.set_cons_zero, List.set_cons_succ]
                refine wpAnyH_one (i := 10) (o := ⟨none, .store 51 (.tmp 106) (.tmp 105), _, _, _, none⟩) (by kernel_rfl) rfl (by rfl) (fun K hK => ?_)
                go_simp
                refine hK _ _ trivial ?_
                clear hK K
                try simp only [Act.put, List.setIfInBounds_toArray, List.set_cons_zero, List.set_cons_succ]
                refine wpAnyH_done (by kernel_rfl) ?_ _
                refine NoPanic.normal ?_
                have HM9 := hide (HP.out.2.2.1 w p D rfl HM7.out)
                have HO9 := hide (HP.out.2.1 _ _ _ HO7.out)
                have HN9 := hide (HP.out.2.1 _ _ _ HN7.out)
                have HA9 := hide HP.out.1
                have qn := HP.out.2.2.2.2.2.2.1 _ _ _ _ _ HN7.out q5
                have HS9 := hide (HP.out.2.2.2.2.2.2.2.1 _ _ HSl7.out)
                rw [← HH'.out] at HA9
                clear HP q8 q9 m2 q5 V7 HOW HSl7 HAM HM7 HO7 HN7 HRN HRX HLT HB7
                generalize w8.setCell ⟨bm, r, none⟩ (.slice A8 (RN + 1) c8) = w9 at *
                have HV9 : Hid (Vals w9 F (some ⟨g5, 0, none⟩) (f.map B)) := hide (by
                  obtain ⟨g, he, ha, _, hn⟩ := HS9.out
                  injection he with he
                  injection he with he
                  injection he with he
                  subst he
                  exact ha.vals hn)
                go_wp2_with fail
                refine (step_write w F p D r (some ⟨g5, 0, none⟩) 64 64 f 0 D' _ HM9.out hact HV9.out HFL.out E1.out).mono ?_
                rintro e w10 ⟨rfl, F', hm10, hst⟩
                have HM10 := hide hm10
                have HO10 := hide (HO9.out.step hst)
                have HN10 := hide (HN9.out.step hst)
                have HA10 := hide (HA9.out.step hst)
                clear hm10 hst HM9 HO9 HN9 HA9 HS9 HV9 qn
                go_wp2
                exact ⟨⟨t + 1, F', D', by omega, by go_num, HU', HM10, HO10, HS', HN10, HA10, HHL'⟩, by simp [intOf]; omega⟩
              · go_simp
                refine hK _ _ trivial ?_
                clear hK K
                try simp only [Act.put, List.setIfInBounds_toArray, List.set_cons_zero, List.set_cons_succ]
                refine wpAnyH_two (i := 3) (j := 7) (o := ⟨some 100, .load 51 (.tmp 99), _, _, _, none⟩) (o' := ⟨some 104, .buildSlice 51 1 #[(0, .tmp 103)], _, _, _, none⟩) (by kernel_rfl) rfl (by rfl) rfl (by rfl) (fun K hK => ?_) (fun K hK => ?_)
                · go_simp
                  refine hK _ _ trivial ?_
                  clear hK K
                  try simp only [Act.put, List.setIfInBounds_toArray, List.set_cons_zero, List.set_cons_succ]
                  refine wpAnyH_one (i := 7) (o := ⟨some 104, .buildSlice 51 1 #[(0, .tmp 103)], _, _, _, none⟩) (by kernel_rfl) rfl (by rfl) (fun K hK => ?_)
                  go_simp
                  refine hK _ _ trivial ?_
                  clear hK K
                  try simp only [Act.put, List.setIfInBounds_toArray, List.set_cons_zero, List.set_cons_succ]
                  refine wpAnyH_one (i := 8) (o := ⟨some 105, .call { callee := .builtin .append, args := #[.tmp 100, .tmp 104], argTypes := #[51, 51] }, _, _, _, none⟩) (by kernel_rfl) rfl (by rfl) (fun K hK => ?_)
                  refine wp_append_vals (.tmp 100) (.tmp 104) 51 rfl 0 34 (.slice none 0 0) 1 24 Try.underlying51 slice_info2 rfl (by omega) (.slice RA RN rc) RN rxs (by go_simp) HOW.out [] (some ⟨w6.heap.size, 0, none⟩) 1 1 [.slice (some ⟨g5, 0, none⟩) 64 64] (by go_simp) rfl V7.out (oneCell_sl2 g5) (by simp only [maxLen]; omega) (by omega) (Nat.zero_le _) ?_
                  intro v8 w8 hown8 hk8 hat8
                  obtain ⟨A8, c8, rfl, _⟩ := own_slice hown8
                  have HP := hide (HAM.out.push hr8 m2 HRN.out HRX.out HOW.out HLT.out HB7.out HBM.out hown8 hk8 hat8 HSl7.out)
                  clear hown8 hk8 hat8
                  obtain ⟨⟨u8, q8⟩, q9, _⟩ := HP.out.2.2.2
                  refine hK _ _ trivial ?_
                  clear hK K
                  try simp only [Act.put, List.setIfInBounds_toArray, List.set_cons_zero, List.set_cons_succ]
                  refine wpAnyH_take (i := 9) (oi := ⟨some 106, .indexAddr 58 (.tmp 14) (.tmp 97), _, _, _, none⟩) (v := Value.pointer (some ⟨bm, r, none⟩)) rfl (by kernel_rfl) (by kernel_rfl) (by kernel_rfl) (fun _ _ _ h => h) (Or.inl ⟨by rfl, ?_⟩) (by trivial) ?_
                  · intro W hSW
                    go_simp
                  try simp only [Act.put, List.setIfInBounds_toArray, List.set_cons_zero, List.set_cons_succ]
                  refine wpAnyH_one (i := 10) (o := ⟨none, .store 51 (.tmp 106) (.tmp 105), _, _, _, none⟩) (by kernel_rfl) rfl (by rfl) (fun K hK => ?_)
                  go_simp
                  refine hK _ _ trivial ?_
                  clear hK K
                  try simp only [Act.put, List.setIfInBounds_toArray, List.set_cons_zero, List.set_cons_succ]
                  refine wpAnyH_done (by kernel_rfl) ?_ _
                  refine NoPanic.normal ?_
                  have HM9 := hide (HP.out.2.2.1 w p D rfl HM7.out)
                  have HO9 := hide (HP.out.2.1 _ _ _ HO7.out)
                  have HN9 := hide (HP.out.2.1 _ _ _ HN7.out)
                  have HA9 := hide HP.out.1
                  have qn := HP.out.2.2.2.2.2.2.1 _ _ _ _ _ HN7.out q5
                  have HS9 := hide (HP.out.2.2.2.2.2.2.2.1 _ _ HSl7.out)
                  rw [← HH'.out] at HA9
                  clear HP q8 q9 m2 q5 V7 HOW HSl7 HAM HM7 HO7 HN7 HRN HRX HLT HB7
                  generalize w8.setCell ⟨bm, r, none⟩ (.slice A8 (RN + 1) c8) = w9 at *
                  have HV9 : Hid (Vals w9 F (some ⟨g5, 0, none⟩) (f.map B)) := hide (by
                    obtain ⟨g, he, ha, _, hn⟩ := HS9.out
                    injection he with he
                    injection he with he
                    injection he with he
                    subst he
                    exact ha.vals hn)
                  go_wp2_with fail
                  refine (step_write w F p D r (some ⟨g5, 0, none⟩) 64 64 f 0 D' _ HM9.out hact HV9.out HFL.out E1.out).mono ?_
                  rintro e w10 ⟨rfl, F', hm10, hst⟩
                  have HM10 := hide hm10
                  have HO10 := hide (HO9.out.step hst)
                  have HN10 := hide (HN9.out.step hst)
                  have HA10 := hide (HA9.out.step hst)
                  clear hm10 hst HM9 HO9 HN9 HA9 HS9 HV9 qn
                  go_wp2
                  exact ⟨⟨t + 1, F', D', by omega, by go_num, HU', HM10, HO10, HS', HN10, HA10, HHL'⟩, by simp [intOf]; omega⟩
                · go_simp
                  refine hK _ _ trivial ?_
                  clear hK K
                  try simp only [Act.put, List.setIfInBounds_toArray, List.set_cons_zero, List.set_cons_succ]
                  refine wpAnyH_one (i := 3) (o := ⟨some 100, .load 51 (.tmp 99), _, _, _, none⟩) (by kernel_rfl) rfl (by rfl) (fun K hK => ?_)
                  have m3 : (w6.alloc (.cells #[.slice (some ⟨g5, 0, none⟩) 64 64] 34)).cell? ⟨bm, r, none⟩ = some (.slice RA RN rc) := m2
                  go_simp
                  refine hK _ _ trivial ?_
                  clear hK K
                  try simp only [Act.put, List.setIfInBounds_toArray, List.set_cons_zero, List.set_cons_succ]
                  clear m3
                  refine wpAnyH_one (i := 8) (o := ⟨some 105, .call { callee := .builtin .append, args := #[.tmp 100, .tmp 104], argTypes := #[51, 51] }, _, _, _, none⟩) (by kernel_rfl) rfl (by rfl) (fun K hK => ?_)
                  refine wp_append_vals (.tmp 100) (.tmp 104) 51 rfl 0 34 (.slice none 0 0) 1 24 Try.underlying51 slice_info2 rfl (by omega) (.slice RA RN rc) RN rxs (by go_simp) HOW.out [] (some ⟨w6.heap.size, 0, none⟩) 1 1 [.slice (some ⟨g5, 0, none⟩) 64 64] (by go_simp) rfl V7.out (oneCell_sl2 g5) (by simp only [maxLen]; omega) (by omega) (Nat.zero_le _) ?_
                  intro v8 w8 hown8 hk8 hat8
                  obtain ⟨A8, c8, rfl, _⟩ := own_slice hown8
                  have HP := hide (HAM.out.push hr8 m2 HRN.out HRX.out HOW.out HLT.out HB7.out HBM.out hown8 hk8 hat8 HSl7.out)
                  clear hown8 hk8 hat8
                  obtain ⟨⟨u8, q8⟩, q9, _⟩ := HP.out.2.2.2
                  refine hK _ _ trivial ?_
                  clear hK K
                  try simp only [Act.put, List.setIfInBounds_toArray, List.set_cons_zero, List.set_cons_succ]
                  refine wpAnyH_take (i := 9) (oi := ⟨some 106, .indexAddr 58 (.tmp 14) (.tmp 97), _, _, _, none⟩) (v := Value.pointer (some ⟨bm, r, none⟩)) rfl (by kernel_rfl) (by kernel_rfl) (by kernel_rfl) (fun _ _ _ h => h) (Or.inl ⟨by rfl, ?_⟩) (by trivial) ?_
                  · intro W hSW
                    go_simp
                  try simp only [Act.put, List.setIfInBounds_toArray, List.set_cons_zero, List.set_cons_succ]
                  refine wpAnyH_one (i := 10) (o := ⟨none, .store 51 (.tmp 106) (.tmp 105), _, _, _, none⟩) (by kernel_rfl) rfl (by rfl) (fun K hK => ?_)
                  go_simp
                  refine hK _ _ trivial ?_
                  clear hK K
                  try simp only [Act.put, List.setIfInBounds_toArray, List.set_cons_zero, List.set_cons_succ]
                  refine wpAnyH_done (by kernel_rfl) ?_ _
                  refine NoPanic.normal ?_
                  have HM9 := hide (HP.out.2.2.1 w p D rfl HM7.out)
                  have HO9 := hide (HP.out.2.1 _ _ _ HO7.out)
                  have HN9 := hide (HP.out.2.1 _ _ _ HN7.out)
                  have HA9 := hide HP.out.1
                  have qn := HP.out.2.2.2.2.2.2.1 _ _ _ _ _ HN7.out q5
                  have HS9 := hide (HP.out.2.2.2.2.2.2.2.1 _ _ HSl7.out)
                  rw [← HH'.out] at HA9
                  clear HP q8 q9 m2 q5 V7 HOW HSl7 HAM HM7 HO7 HN7 HRN HRX HLT HB7
                  generalize w8.setCell ⟨bm, r, none⟩ (.slice A8 (RN + 1) c8) = w9 at *
                  have HV9 : Hid (Vals w9 F (some ⟨g5, 0, none⟩) (f.map B)) := hide (by
                    obtain ⟨g, he, ha, _, hn⟩ := HS9.out
                    injection he with he
                    injection he with he
                    injection he with he
                    subst he
                    exact ha.vals hn)
                  go_wp2_with fail
                  refine (step_write w F p D r (some ⟨g5, 0, none⟩) 64 64 f 0 D' _ HM9.out hact HV9.out HFL.out E1.out).mono ?_
                  rintro e w10 ⟨rfl, F', hm10, hst⟩
                  have HM10 := hide hm10
                  have HO10 := hide (HO9.out.step hst)
                  have HN10 := hide (HN9.out.step hst)
                  have HA10 := hide (HA9.out.step hst)
                  clear hm10 hst HM9 HO9 HN9 HA9 HS9 HV9 qn
                  go_wp2
                  exact ⟨⟨t + 1, F', D', by omega, by go_num, HU', HM10, HO10, HS', HN10, HA10, HHL'⟩, by simp [intOf]; omega⟩
            · obtain rfl : t = n1 := by omega
              obtain ⟨H, hH⟩ : ∃ H : Nat → List (List UInt8), (fun j => heldOf j D.held) = H := ⟨_, rfl⟩
              have HRD : Hid (∀ (i : Nat), i < 8 → ∃ bs, (D.crash l2).read (i : Int) = (0, bs) ∧ bs.length = 64 ∧ ∀ p, p < 64 → ∀ x, bs[p]? = some x → (os i)[p]? = some x ∨ ∃ (j : Nat) (y : List UInt8), (H i)[j]? = some y ∧ y[p]? = some x) := hide (fun i hi => by
                obtain ⟨bs, h1, h2, h3⟩ := crash_safe HUR.out l2 i hi
                rw [HSR.out i hi] at h3
                rw [← hH]
                exact ⟨bs, h1, h2, h3⟩)
              have HHL2 : Hid (∀ j, (H j).length ≤ 30) := hide (fun j => by
                have := HHR.out j
                rw [← hH]
                show (heldOf j D.held).length ≤ 30
                omega)
              rw [hH] at HAR
              clear hH
              go_wp2_with fail
              refine (mine_crash w F p D a2 n2 c2 l2 _ HMR.out (by omega) (HV2.out.kept HMR.out.2.2 (by simp)) HL2.out).mono ?_
              rintro e w5 ⟨F2, q, rfl, hm2, _, _, hk2⟩
              have HM5 := hide hm2
              have HO5 := hide (HOR.out.kept0 hk2)
              have HA5 := hide (HAR.out.kept0 hk2)
              have EH : Hid ((D.crash l2).held.length = 0) := hide rfl
              have EA : Hid ((D.crash l2).acts = 0) := hide rfl
              have EO : Hid ((D.crash l2).off = false) := hide rfl
              clear hm2 hk2 HMR HOR HAR HNR HSR HUR HHR hact hlt ht
              generalize D.crash l2 = C at *
              go_wp2_with fail
              refine (mine_held w F2 q C _ HM5.out 0 EH.out).mono ?_
              rintro e w6 ⟨rfl, rfl⟩
              go_wp2_with fail
              refine (mine_acts w F2 q C _ HM5.out 0 EA.out).mono ?_
              rintro e w6 ⟨rfl, rfl⟩
              go_wp2_with fail
              refine (mine_off w F2 q C _ HM5.out false EO.out).mono ?_
              rintro e w6 ⟨rfl, rfl⟩
              go_wp2
              go_loopw [18] (fun i wr => ∃ (k : Nat), k ≤ 8 ∧ i = .int .i64 k ∧ Hid (Mine w wr F2 q C ∧ Old wr F bo 8 os ∧ Among w.heap.size wr F bm H)) (fun i wr => 8 - (intOf i).toNat)
              case atStart => exact ⟨0, Nat.zero_le _, rfl, hide ⟨HM5.out, HO5.out, HA5.out⟩⟩
              case round =>
                obtain ⟨k, hk, rfl, HTR⟩ := hrel
                clear HM5 HO5 HA5
                by_cases hlt : k < 8
                · obtain ⟨bs, hrd, hbl, hby⟩ := HRD.out k hlt
                  have HBY := hide hby
                  have HBL := hide hbl
                  have E1 := hide hrd
                  clear hby hbl hrd
                  go_wp2_with fail
                  refine (mine_read w F2 q C k 0 bs 64 _ HTR.out.1 E1.out HBL.out).mono ?_
                  rintro e w3 ⟨A3, c3, rfl, hf3, hm3, hk3⟩
                  have hc3 : 64 ≤ c3 := hf3.2.1
                  have hv3 : Vals w3 [] A3 (bs.map B) := hf3.vals
                  obtain ⟨z0, hz0⟩ : ∃ z0, bs[0]? = some z0 := ⟨_, List.getElem?_eq_getElem (by rw [HBL.out]; omega)⟩
                  obtain ⟨ad, rfl, _, _⟩ := hv3 0 (B z0) (by rw [List.getElem?_map, hz0]; rfl)
                  have HT : Hid (Vals w3 [] (some ad) (bs.map B) ∧ Mine w w3 F2 q C ∧ Old w3 F bo 8 os ∧ Among w.heap.size w3 F bm H) := hide ⟨hv3, hm3, HTR.out.2.1.kept0 hk3, HTR.out.2.2.kept0 hk3⟩
                  clear hf3 hm3 hk3 hv3 hz0 HTR E1
                  have gk1 : (0 : Int) ≤ k := by omega
                  have gk2 : (k : Int) < 8 := by omega
                  obtain ⟨n6, hn6⟩ : ∃ n, (H k).length = n := ⟨_, rfl⟩
                  have hn30 : n6 ≤ 30 := by rw [← hn6]; exact HHL2.out k
                  have HN6 := hide hn6
                  clear hn6
                  go_wp2
                  go_loopw [21] (fun v wr => ∃ g : Nat, g ≤ 64 ∧ v = .int .i64 g ∧ Hid (Vals wr [] (some ad) (bs.map B) ∧ Mine w wr F2 q C ∧ Old wr F bo 8 os ∧ Among w.heap.size wr F bm H)) (fun v wr => 64 - (intOf v).toNat)
                  case atStart => exact ⟨0, Nat.zero_le _, rfl, HT⟩
                  case round =>
                    obtain ⟨g, hg, rfl, HTG⟩ := hrel
                    clear HT
                    by_cases hg64 : g < 64
                    · obtain ⟨x, hx⟩ : ∃ x, bs[g]? = some x := ⟨_, List.getElem?_eq_getElem (by rw [HBL.out]; exact hg64)⟩
                      obtain ⟨ad', had, _, hcx⟩ := HTG.out.1 g (B x) (by rw [List.getElem?_map, hx]; rfl)
                      injection had with had
                      subst had
                      unfold B at hcx
                      obtain ⟨v, m1, hsl⟩ := HTG.out.2.2.1.get hlt
                      obtain ⟨y, hy⟩ : ∃ y, (os k)[g]? = some y := ⟨_, List.getElem?_eq_getElem (by obtain ⟨_, _, _, h, _⟩ := hsl; omega)⟩
                      obtain ⟨go, rfl, hgo⟩ := hsl.at_
                      have hcy := hgo g y hy
                      have HX : Hid (∀ b : Bool, (b = true ∨ (x ≠ y ∧ ∀ (j' : Nat) (z : List UInt8), j' < n6 → (H k)[j']? = some z → z[g]? ≠ some x)) → b = true) := hide (fun b hb => by
                        rcases hb with hb | ⟨h1, h2⟩
                        · exact hb
                        · rcases HBY.out g hg64 x hx with h3 | ⟨j, z, h3, h4⟩
                          · rw [hy] at h3
                            injection h3 with h3
                            exact absurd h3.symm h1
                          · exact absurd h4 (h2 j z (by have := (List.getElem?_eq_some_iff.1 h3).1; rw [HN6.out] at this; exact this) h3))
                      obtain ⟨b0, hb0⟩ : ∃ b, ((x.toNat : Int) == (y.toNat : Int)) = b := ⟨_, rfl⟩
                      have HB0 : Hid (b0 = true ∨ (x ≠ y ∧ ∀ (j' : Nat) (z : List UInt8), j' < 0 → (H k)[j']? = some z → z[g]? ≠ some x)) := hide (by
                        by_cases e : x = y
                        · left; rw [← hb0, e]; simp
                        · exact .inr ⟨e, fun j' z h => by omega⟩)
                      have HXC : Hid (∀ W, Vals W [] (some ad) (bs.map B) → W.cell? (ad.add g) = some (.int .u8 (x.toNat : Int))) := hide (fun W hW => by
                        obtain ⟨ad', had, _, hc⟩ := hW g (B x) (by rw [List.getElem?_map, hx]; rfl)
                        injection had with had
                        subst had
                        exact hc)
                      clear hx hy hgo hsl
                      have gg1 : (0 : Int) ≤ g := by omega
                      have gg2 : (g : Int) < 64 := by omega
                      go_wp2
                      go_quiet (fail)
                      have HT2 : Hid (Vals (wr.drewN nq) [] (some ad) (bs.map B) ∧ Mine w (wr.drewN nq) F2 q C ∧ Old (wr.drewN nq) F bo 8 os ∧ Among w.heap.size (wr.drewN nq) F bm H) := hide (by
                        have k0 : Kept [] wr (wr.drewN nq) := (Kept.refl [] wr).drewN nq
                        exact ⟨HTG.out.1.kept k0 (by simp), HTG.out.2.1.kept k0, HTG.out.2.2.1.kept0 k0, HTG.out.2.2.2.kept0 k0⟩)
                      clear HTG hcx hcy m1 hb0
                      generalize wr.drewN nq = w4 at *
                      go_wp2
                      go_loopw [22, 23] (fun ok jv wr => ∃ (b : Bool) (j : Nat), j ≤ n6 ∧ ok = .bool b ∧ jv = .int .i64 j ∧ Hid (b = true ∨ (x ≠ y ∧ ∀ (j' : Nat) (z : List UInt8), j' < j → (H k)[j']? = some z → z[g]? ≠ some x)) ∧ Hid (Vals wr [] (some ad) (bs.map B) ∧ Mine w wr F2 q C ∧ Old wr F bo 8 os ∧ Among w.heap.size wr F bm H)) (fun ok jv wr => n6 - (intOf jv).toNat)
                      case atStart => exact ⟨b0, 0, Nat.zero_le _, rfl, rfl, HB0, HT2⟩
                      case round =>
                        obtain ⟨b, j, hj, rfl, rfl, HB, HTJ⟩ := hrel
                        clear HT2 HB0
                        obtain ⟨v, m2, ⟨RA, rc, rxs, rfl, how, _, hrx⟩, _⟩ := HTJ.out.2.2.2.get hlt
                        rw [HN6.out] at m2 how
                        by_cases hj6 : j < n6
                        · obtain ⟨z, hz⟩ : ∃ z, (H k)[j]? = some z := ⟨_, List.getElem?_eq_getElem (by rw [HN6.out]; exact hj6)⟩
                          obtain ⟨u, hu, hsl⟩ := hrx j z hz
                          obtain ⟨c, hc⟩ : ∃ c, z[g]? = some c := ⟨_, List.getElem?_eq_getElem (by obtain ⟨_, _, _, h, _⟩ := hsl; omega)⟩
                          obtain ⟨gz, rfl, hgz⟩ := hsl.at_
                          have hcz := hgz g c hc
                          obtain ⟨gr, rfl, hrow, hnc⟩ := own_addr how (by omega)
                          have m3 : wr.cell? ⟨gr, j, none⟩ = some (.slice (some ⟨gz, 0, none⟩) 64 64) := by
                            obtain ⟨cs, hb, _, hv⟩ := hrow
                            rw [hb.cell]
                            exact hv j _ hu
                          have hcx := HXC.out wr HTJ.out.1
                          obtain ⟨b1, hb1⟩ : ∃ b, ((x.toNat : Int) == (c.toNat : Int)) = b := ⟨_, rfl⟩
                          have HB1 : Hid (b = false → b1 = true ∨ (x ≠ y ∧ ∀ (j' : Nat) (z : List UInt8), j' < j + 1 → (H k)[j']? = some z → z[g]? ≠ some x)) := hide (fun hb => by
                            by_cases e : x = c
                            · left; rw [← hb1, e]; simp
                            · rcases HB.out with h | ⟨h1, h2⟩
                              · rw [hb] at h; cases h
                              · refine .inr ⟨h1, fun j' z' hj' hz' => ?_⟩
                                rcases Nat.lt_or_ge j' j with h | h
                                · exact h2 j' z' h hz'
                                · obtain rfl : j' = j := by omega
                                  rw [hz] at hz'
                                  injection hz' with hz'
                                  subst hz'
                                  rw [hc]
                                  intro he
                                  injection he with he
                                  exact e he.symm)
                          clear hz hu hsl hc hgz hrx how hrow
                          have gj1 : (0 : Int) ≤ j := by omega
                          have gj2 : (j : Int) < n6 := by omega
                          cases b with
                          | true =>
                            clear HB HB1 hb1
                            go_wp2
                            go_quiet (fail)
                            have HT3 : Hid (Vals (wr.drewN nq) [] (some ad) (bs.map B) ∧ Mine w (wr.drewN nq) F2 q C ∧ Old (wr.drewN nq) F bo 8 os ∧ Among w.heap.size (wr.drewN nq) F bm H) := hide (by
                              have k0 : Kept [] wr (wr.drewN nq) := (Kept.refl [] wr).drewN nq
                              exact ⟨HTJ.out.1.kept k0 (by simp), HTJ.out.2.1.kept k0, HTJ.out.2.2.1.kept0 k0, HTJ.out.2.2.2.kept0 k0⟩)
                            clear HTJ hcx hcz m2 m3
                            generalize wr.drewN nq = w5 at *
                            go_wp2
                            exact ⟨⟨true, j + 1, by omega, by go_num, by go_num, hide (.inl rfl), HT3⟩, by simp [intOf]; omega⟩
                          | false =>
                            have HB2 := hide (HB1.out rfl)
                            clear HB HB1
                            go_wp2
                            go_quiet (fail)
                            have HT3 : Hid (Vals (wr.drewN nq) [] (some ad) (bs.map B) ∧ Mine w (wr.drewN nq) F2 q C ∧ Old (wr.drewN nq) F bo 8 os ∧ Among w.heap.size (wr.drewN nq) F bm H) := hide (by
                              have k0 : Kept [] wr (wr.drewN nq) := (Kept.refl [] wr).drewN nq
                              exact ⟨HTJ.out.1.kept k0 (by simp), HTJ.out.2.1.kept k0, HTJ.out.2.2.1.kept0 k0, HTJ.out.2.2.2.kept0 k0⟩)
                            clear HTJ hcx hcz m2 m3 hb1
                            generalize wr.drewN nq = w5 at *
                            go_wp2
                            exact ⟨⟨b1, j + 1, by omega, by go_num, by go_num, HB2, HT3⟩, by simp [intOf]; omega⟩
                        · have hjn : j = n6 := by omega
                          have hbt : b = true := HX.out b (by have := HB.out; rw [hjn] at this; exact this)
                          subst hbt
                          clear hjn HB hrx how
                          go_wp2
                          exact ⟨⟨g + 1, by omega, by go_num, HTJ⟩, by simp [intOf]; omega⟩
                    · clear hg
                      go_wp2
                      exact ⟨⟨k + 1, by omega, by go_num, hide ⟨HTG.out.2.1, HTG.out.2.2.1, HTG.out.2.2.2⟩⟩, by simp [intOf]; omega⟩
                · go_wp2_with fail
                  refine (awake_any _).mono ?_
                  rintro e w9 ⟨rfl, hk9⟩
                  have HM9 := hide (HTR.out.1.kept hk9)
                  clear hk9
                  go_wp2
                  go_ret
                  exact ⟨rfl, HM9.out.below⟩
set_option maxRecDepth 100000 in
set_option maxHeartbeats 1000000 in
theorem walk_out (a0 : Option Addr) (n0 c0 : Nat) (a1 : Option Addr) (n1 c1 : Nat) (a2 : Option Addr) (n2 c2 : Nat) (w : World) (h : 30 < n0 ∨ 30 < n1 ∨ 60 < n2) :
    Calls Try.prog 4 #[.slice a0 n0 c0, .slice a1 n1 c1, .slice a2 n2 c2] w fun e w' => e = .returned (.bool true) ∧ Below w.heap.size w w' := by
  by_cases h0 : 30 < n0
  · go_enter Try.func4, Try.ntmps4
    go_wp2_with (go_at_call 9; refine (awake_any _).mono ?_; rintro e w' ⟨rfl, hb⟩)
    go_ret
    exact ⟨rfl, hb.below (by simp)⟩
  · by_cases h1 : 30 < n1
    · go_enter Try.func4, Try.ntmps4
      go_wp2_with (go_at_call 9; refine (awake_any _).mono ?_; rintro e w' ⟨rfl, hb⟩)
      go_ret
      exact ⟨rfl, hb.below (by simp)⟩
    · have h2 : 60 < n2 := by omega
      clear h
      go_enter Try.func4, Try.ntmps4
      go_wp2_with (go_at_call 9; refine (awake_any _).mono ?_; rintro e w' ⟨rfl, hb⟩)
      go_ret
      exact ⟨rfl, hb.below (by simp)⟩
theorem walk (a0 : Option Addr) (len0 cap0 : Nat) (z0 : List Int) (a1 : Option Addr) (len1 cap1 : Nat) (z1 : List Int) (a2 : Option Addr) (len2 cap2 : Nat) (z2 : List Int) (w : World) (w0 : IsRow .i64 w a0 len0 cap0 z0) (w1 : IsRow .i64 w a1 len1 cap1 z1) (w2 : IsRow .i64 w a2 len2 cap2 z2) :
    Calls Try.prog 4 #[.slice a0 len0 cap0, .slice a1 len1 cap1, .slice a2 len2 cap2] w fun e w' => e = .returned (.bool true) ∧ Below w.heap.size w w' := by
  obtain ⟨l0, hl0, _, hv0, _⟩ := w0.ints
  obtain ⟨l1, hl1, _, hv1, _⟩ := w1.ints
  obtain ⟨l2, hl2, _, hv2, _⟩ := w2.ints
  by_cases h : len0 ≤ 30 ∧ len1 ≤ 30 ∧ len2 ≤ 60
  · exact walk_in a0 len0 cap0 l0 a1 len1 cap1 l1 a2 len2 cap2 l2 w hv0 hl0 h.1 hv1 hl1 h.2.1 hv2 hl2 h.2.2
  · exact walk_out a0 len0 cap0 a1 len1 cap1 a2 len2 cap2 w (by omega)

/-! ### the row's step, as the guide's skeleton has it -/
set_option maxRecDepth 100000 in
theorem lifted (os : Os) (started : os.Started) (H : Type) (enc : TypeId × Value → H) :
    ReturnsInHanded {} Try.checked os 4 .any (Rows.diskSafeSpec.pre6 enc Try.prog Try.f4 Rows.diskSafeRow.domain false) (Rows.diskSafeSpec.post enc Try.prog Try.f4 false true false false) := by
  refine returnsInHanded_of_change (C := Try.checked) own started (by kernel_rfl) Try.func4
    (ChangeSpec.witness6 (enc := enc) (C := Try.checked) false ⟨#[], #[.slice none 0 0, .slice none 0 0, .slice none 0 0], []⟩ 8 (by kernel_rfl) (by kernel_rfl) (by kernel_rfl) (by kernel_rfl)) ?_
  intro W base args ds gs before hval0 hW hcnd _
  have hval : ∀ (j : Nat) t v, Try.f4.params[j]? = some t → args[j]? = some v → Value.okWide Try.prog W .any base t v := hval0
  have hW' := hW
  obtain ⟨p, q, hA0, hV, rfl, hfz, hnd⟩ := hW
  have hA : DataW.TrodAll enc Try.prog W 0 (fun _ => true) true Try.f4.params.toList args.toList ds p := hA0
  rw [Try.params4] at hA hval
  obtain ⟨v0, vs0, d0, ds0, p0, q0, hargs, rfl, rfl, h0, r0⟩ := trodAll_cons hA
  obtain ⟨v1, vs1, d1, ds1, p1, q1, rfl, rfl, rfl, h1, r1⟩ := trodAll_cons r0
  obtain ⟨v2, vs2, d2, ds2, p2, q2, rfl, rfl, rfl, h2, r2⟩ := trodAll_cons r1
  obtain ⟨rfl, rfl, rfl⟩ := trodAll_nil r2
  obtain rfl : args = #[v0, v1, v2] := by cases args; simp_all
  obtain ⟨rfl, rfl⟩ := trodVars_none hV
  obtain ⟨a0, len0, cap0, rfl⟩ := okWide_slice Try.underlying30 (hval 0 30 v0 rfl rfl)
  have k0 := h0
  have lt0 : ∀ x ∈ p0, x.block < W.heap.size := by obtain ⟨m, hm⟩ := k0; exact DataW.trod_lt m _ _ _ hm
  obtain ⟨z0, w0⟩ : ∃ zs, IsRow .i64 W a0 len0 cap0 zs := by
    obtain ⟨fuel, hf⟩ := h0
    rcases open_ints Try.underlying30 Try.underlying3 (by kernel_rfl) hf with ⟨hcs, _⟩ | ⟨x, l, c, zs, hcs, _, hl, hm, hz, _, hcell, hwz⟩
    · simp [Value.cells] at hcs
      obtain ⟨rfl, rfl, rfl⟩ := hcs
      exact ⟨[], .inl ⟨rfl, rfl, rfl, rfl⟩⟩
    · simp [Value.cells] at hcs
      obtain ⟨rfl, rfl, rfl⟩ := hcs
      exact ⟨zs, .inr ⟨_, rfl, hl, hm, by simpa using hz, hcell, hwz⟩⟩
  obtain ⟨a1, len1, cap1, rfl⟩ := okWide_slice Try.underlying30 (hval 1 30 v1 rfl rfl)
  have k1 := h1
  have lt1 : ∀ x ∈ p1, x.block < W.heap.size := by obtain ⟨m, hm⟩ := k1; exact DataW.trod_lt m _ _ _ hm
  obtain ⟨z1, w1⟩ : ∃ zs, IsRow .i64 W a1 len1 cap1 zs := by
    obtain ⟨fuel, hf⟩ := h1
    rcases open_ints Try.underlying30 Try.underlying3 (by kernel_rfl) hf with ⟨hcs, _⟩ | ⟨x, l, c, zs, hcs, _, hl, hm, hz, _, hcell, hwz⟩
    · simp [Value.cells] at hcs
      obtain ⟨rfl, rfl, rfl⟩ := hcs
      exact ⟨[], .inl ⟨rfl, rfl, rfl, rfl⟩⟩
    · simp [Value.cells] at hcs
      obtain ⟨rfl, rfl, rfl⟩ := hcs
      exact ⟨zs, .inr ⟨_, rfl, hl, hm, by simpa using hz, hcell, hwz⟩⟩
  obtain ⟨a2, len2, cap2, rfl⟩ := okWide_slice Try.underlying30 (hval 2 30 v2 rfl rfl)
  have k2 := h2
  have lt2 : ∀ x ∈ p2, x.block < W.heap.size := by obtain ⟨m, hm⟩ := k2; exact DataW.trod_lt m _ _ _ hm
  obtain ⟨z2, w2⟩ : ∃ zs, IsRow .i64 W a2 len2 cap2 zs := by
    obtain ⟨fuel, hf⟩ := h2
    rcases open_ints Try.underlying30 Try.underlying3 (by kernel_rfl) hf with ⟨hcs, _⟩ | ⟨x, l, c, zs, hcs, _, hl, hm, hz, _, hcell, hwz⟩
    · simp [Value.cells] at hcs
      obtain ⟨rfl, rfl, rfl⟩ := hcs
      exact ⟨[], .inl ⟨rfl, rfl, rfl, rfl⟩⟩
    · simp [Value.cells] at hcs
      obtain ⟨rfl, rfl, rfl⟩ := hcs
      exact ⟨zs, .inr ⟨_, rfl, hl, hm, by simpa using hz, hcell, hwz⟩⟩
  clear hA0 hval0
  refine (walk a0 len0 cap0 z0 a1 len1 cap1 z1 a2 len2 cap2 z2 W w0 w1 w2).mono fun e W' ⟨he, bel⟩ => ?_
  subst he
  exact ⟨_, rfl, _, _, _, [], _, [], hW', trodAll_mk1 (shut_bool Try.underlying4 _), (trodAll_cons_mk (Below.trod laidOut (by kernel_rfl) (of_decide_eq_true (by kernel_rfl)) k0 bel lt0) (trodAll_cons_mk (Below.trod laidOut (by kernel_rfl) (of_decide_eq_true (by kernel_rfl)) k1 bel lt1) (trodAll_cons_mk (Below.trod laidOut (by kernel_rfl) (of_decide_eq_true (by kernel_rfl)) k2 bel lt2) trodAll_mk0))), rfl, bel.frame _, fun h => by cases h⟩

theorem over : Rows.diskSafeRow.holds Try.pinned (OpenSpec.ofChange Rows.diskSafeSpec) :=
  OpenClaim.holds_of_wide 4 Try.f4 rfl rfl rfl rfl rfl rfl rfl ⟨rfl, rfl, rfl, rfl, rfl⟩ rfl rfl rfl rfl rfl (by kernel_rfl) Try.func4 (by kernel_rfl)
    (of_decide_eq_true (by kernel_rfl)) (by unfold Func.isWrapper; first | (rw [if_pos (by decide +kernel)]; kernel_rfl) | (rw [if_neg (by decide +kernel)]; exact ⟨rfl, rfl⟩))
    (fun os started H enc _ => lifted os started H enc)

/-- The statement. -/
theorem proved : Rows.DiskSafeSaid := over
#print axioms proved
end Go.Proofs.Yteobkgajebbpaaa.diskSafe

