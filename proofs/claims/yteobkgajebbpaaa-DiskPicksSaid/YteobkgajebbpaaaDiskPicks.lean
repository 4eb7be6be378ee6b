/-
  The given statement DiskPicksSaid is proved: whatever the arguments are, the law returns true and leaves its input as it was. No conditions.
-/
import Derived.Test.YteobkgajebbpaaaDiskKit
import Derived.Test.YteobkgajebbpaaaOpen
import Derived.WalkKit
import Derived.ProofKit
import Derived.OpenShut
import Derived.ShutString
import Derived.ChangeOld
import Derived.Below
namespace Go.Proofs.Yteobkgajebbpaaa.diskPicks
open Go.ChangeShapes Go.WideShapes Go.ChangeAt Go.RowKit
open Go.ChangeMaps (open_string shut_string)
open Go.Proofs.Yteobkgajebbpaaa.mem Go.Proofs.Yteobkgajebbpaaa.base Go.Proofs.Yteobkgajebbpaaa.disk
set_option linter.unusedVariables false

theorem own : ownKnob Try.prog.godebug = none := by kernel_rfl
theorem laidOut : laidOutB Try.prog = true := by kernel_rfl

/-- Writes of one sector after the other. -/
def row_ (f : Nat → List UInt8) (k : Nat) : List (Nat × List UInt8) := (List.range k).map fun j => (j, f j)
theorem row_succ (f : Nat → List UInt8) (k : Nat) : row_ f (k + 1) = row_ f k ++ [(k, f k)] := by simp [row_, List.range_succ]
theorem row_length (f : Nat → List UInt8) (k : Nat) : (row_ f k).length = k := by simp [row_]
theorem last_row (f : Nat → List UInt8) (c : List UInt8) (j : Nat) : ∀ k, lastOf j c (row_ f k) = if j < k then f j else c
  | 0 => by rw [if_neg (by omega)]; rfl
  | k + 1 => by
    have ih := last_row f c j k
    rw [row_succ]
    unfold lastOf at ih ⊢
    rw [List.foldl_append, ih]
    show (if k = j then f k else if j < k then f j else c) = _
    by_cases h1 : k = j
    · subst h1
      rw [if_pos rfl, if_pos (by omega)]
    · rw [if_neg h1]
      by_cases h2 : j < k
      · rw [if_pos h2, if_pos (by omega)]
      · rw [if_neg h2, if_neg (by omega)]

/-- A disk that is being written, sector by sector, with power for good. -/
structure Run (n k : Nat) (f : Nat → List UInt8) (D : Dk) : Prop where
  ok : D.ok
  sz : D.n = n
  off : D.off = false
  fuse : D.fuse = -1
  flt : D.faults = List.replicate n false
  held : D.held = row_ f k
theorem run_tick {n k : Nat} {f : Nat → List UInt8} {D : Dk} (h : Run n k f D) : D.tick = true := by unfold Dk.tick; rw [h.off, h.fuse]; rfl
theorem run_ticked {n k : Nat} {f : Nat → List UInt8} {D : Dk} (h : Run n k f D) : D.ticked = { D with acts := D.acts + 1 } := by
  unfold Dk.ticked
  rw [run_tick h, if_pos rfl, h.fuse]
  have := h.fuse
  cases D
  simp at this ⊢
  try exact this.symm
theorem run_write {n k : Nat} {f : Nat → List UInt8} {D : Dk} (h : Run n k f D) (hk : k < n) (hl : (f k).length = 64) : ∃ D', D.write k (f k) = (0, D') ∧ Run n (k + 1) f D' ∧ D'.acts = D.acts + 1 ∧ D'.safe = D.safe := by
  have hk' : k < D.n := by rw [h.sz]; exact hk
  have ho := h.ok.wrote (has_of hk') hl
  rw [Int.toNat_natCast, run_ticked h] at ho
  refine ⟨{ D with acts := D.acts + 1, held := D.held ++ [(k, f k)] }, ?_, ⟨ho, h.sz, h.off, h.fuse, h.flt, ?_⟩, rfl, rfl⟩
  · rw [write_eq hk' hl (run_tick h), run_ticked h]
  · show D.held ++ [(k, f k)] = _
    rw [h.held, row_succ]
theorem run_flush {n : Nat} {f g : Nat → List UInt8} {D : Dk} (h : Run n n f D) : ∃ D', D.flush = (0, D') ∧ Run n 0 g D' ∧ D'.acts = D.acts + 1 ∧ ∀ j, j < n → sec D'.safe j = f j := by
  have ho := h.ok.flushed
  rw [run_ticked h] at ho
  refine ⟨{ D with acts := D.acts + 1, safe := D.now, held := [] }, ?_, ⟨ho, h.sz, h.off, h.fuse, h.flt, rfl⟩, rfl, fun j hj => ?_⟩
  · unfold Dk.flush
    rw [run_tick h, run_ticked h]
    rfl
  · show sec D.now j = f j
    have := sec_layH D.n j D.held D.safe h.ok.safe h.ok.held
    unfold Dk.now
    rw [this, h.held, last_row, if_pos hj]

def tornB (l : List Int) : Nat → Bool
  | 0 => false
  | k + 1 => tornB l k || (pickAt l k % 3 == 2)
/-- How many bytes of a write are there. -/
def qAt (l : List Int) (i : Nat) : Nat := if pickAt l i % 3 = 1 then 64 else if pickAt l i % 3 = 2 ∧ tornB l i = false then pickAt l i / 3 else 0
theorem qAt_le (l : List Int) (i : Nat) : qAt l i ≤ 64 := by
  have := pickAt_lt l i
  unfold qAt
  split
  · omega
  · split <;> omega
def cont (l : List Int) (i : Nat) : List UInt8 := lay (fillOf 200) 0 ((fillOf (i : Int)).take (qAt l i))
theorem cont_length (l : List Int) (i : Nat) : (cont l i).length = 64 := by
  have := qAt_le l i
  unfold cont
  rw [lay_length _ _ _ (by rw [List.length_take, fillOf_length, fillOf_length]; omega), fillOf_length]
theorem crash_cont {n : Nat} {l : List Int} {D : Dk} (h : Run n n (fun j => fillOf (j : Int)) D) (hs : ∀ j, j < n → sec D.safe j = fillOf 200) : ∀ k, k ≤ n →
    (crashK D l k).2 = tornB l k ∧ ∀ j, j < n → sec (crashK D l k).1 j = if j < k then cont l j else fillOf 200
  | 0, _ => ⟨rfl, fun j hj => by rw [if_neg (by omega)]; exact hs j hj⟩
  | k + 1, hk => by
    obtain ⟨h1, h2⟩ := crash_cont (l := l) h hs k (by omega)
    have hlen : D.held.length = n := by rw [h.held, row_length]
    have h3 := crashK_length h.ok l k (by omega)
    rw [h.sz] at h3
    have hgd : D.held.getD k (0, []) = (k, fillOf (k : Int)) := by
      rw [h.held, List.getD_eq_getElem?_getD]
      unfold row_
      rw [List.getElem?_map, List.getElem?_range (by omega)]
      rfl
    have hfl := fillOf_length (k : Int)
    have h4 := h2 k (by omega)
    rw [if_neg (by omega)] at h4
    show (torn (crashK D l k) (D.held.getD k (0, [])) (pickAt l k)).2 = (tornB l k || (pickAt l k % 3 == 2)) ∧ _
    have e : (crashK D l (k + 1)).1 = (torn (crashK D l k) (D.held.getD k (0, [])) (pickAt l k)).1 := rfl
    rw [e, hgd, ← h1]
    have oth : ∀ (u : Nat), u ≤ 64 → qAt l k = u → ∀ j, j < n → sec (lay (crashK D l k).1 (64 * k) ((fillOf (k : Int)).take u)) j = if j < k + 1 then cont l j else fillOf 200 := by
      intro u hu hq j hj
      by_cases e : k = j
      · subst e
        rw [sec_lay_same _ k n _ h3 (by omega) (by rw [List.length_take, hfl]; omega), h4, if_pos (by omega)]
        unfold cont
        rw [hq]
      · rw [sec_lay_other _ k j n _ h3 (by omega) (by rw [List.length_take, hfl]; omega) e, h2 j hj]
        by_cases h5 : j < k
        · rw [if_pos h5, if_pos (by omega)]
        · rw [if_neg h5, if_neg (by omega)]
    have non : qAt l k = 0 → ∀ j, j < n → sec (crashK D l k).1 j = if j < k + 1 then cont l j else fillOf 200 := by
      intro hq j hj
      have := oth 0 (by omega) hq j hj
      rw [List.take_zero, lay_nil] at this
      exact this
    unfold torn
    by_cases hp1 : pickAt l k % 3 = 1
    · rw [if_pos hp1]
      refine ⟨by simp [hp1], fun j hj => ?_⟩
      have := oth 64 (by omega) (by unfold qAt; rw [if_pos hp1]) j hj
      rw [List.take_of_length_le (by rw [hfl]; exact Nat.le_refl _)] at this
      exact this
    · rw [if_neg hp1]
      by_cases hp2 : pickAt l k % 3 = 2
      · rw [if_pos hp2]
        refine ⟨by simp [hp2], ?_⟩
        show ∀ j, j < n → sec (if (crashK D l k).2 then (crashK D l k).1 else lay (crashK D l k).1 (64 * k) ((fillOf (k : Int)).take (pickAt l k / 3))) j = _
        have hlt := pickAt_lt l k
        by_cases ht : (crashK D l k).2 = true
        · rw [if_pos ht]
          exact non (by unfold qAt; rw [if_neg hp1, if_neg (by rw [← h1, ht]; simp)])
        · rw [if_neg ht]
          exact oth _ (by omega) (by unfold qAt; rw [if_neg hp1, if_pos ⟨hp2, by rw [← h1]; simpa using ht⟩])
      · rw [if_neg hp2]
        refine ⟨by simp [hp2], non (by unfold qAt; rw [if_neg hp1, if_neg (fun h => hp2 h.1)])⟩
theorem crash_read {n : Nat} {l : List Int} {D : Dk} (h : Run n n (fun j => fillOf (j : Int)) D) (hs : ∀ j, j < n → sec D.safe j = fillOf 200) (i : Nat) (hi : i < n) : (D.crash l).read i = (0, cont l i) := by
  have hsz : (D.crash l).n = n := h.sz
  have hf : (D.crash l).faults = List.replicate n false := h.flt
  rw [read_eq (by rw [hsz]; exact hi) rfl, hf, rep_false]
  have h1 := (crash_cont (l := l) h hs n (Nat.le_refl _)).2 i hi
  rw [if_pos hi] at h1
  have hlen : D.held.length = n := by rw [h.held, row_length]
  show (0, sec (crashK D l D.held.length).1 i) = _
  rw [hlen, h1]
theorem cont_new (l : List Int) (i g : Nat) (h : g < qAt l i) : (cont l i)[g]? = (fillOf (i : Int))[g]? := by
  have hq := qAt_le l i
  unfold cont
  rw [lay_get _ _ _ (by rw [List.length_take, fillOf_length, fillOf_length]; omega), if_pos (by rw [List.length_take, fillOf_length]; omega), Nat.sub_zero, List.getElem?_take_of_lt h]
theorem cont_old (l : List Int) (i : Nat) : (cont l i).drop (qAt l i) = (fillOf 200).drop (qAt l i) := by
  have hq := qAt_le l i
  have h1 : ((fillOf (i : Int)).take (qAt l i)).length = qAt l i := by rw [List.length_take, fillOf_length]; omega
  unfold cont lay
  rw [List.take_zero, List.nil_append, Nat.zero_add, h1, List.drop_append, h1, Nat.sub_self, List.drop_zero, List.drop_eq_nil_of_le (by omega), List.nil_append]
theorem fill_ne (i g : Nat) (hi : i < 42) (hg : g < 64) (x y : UInt8) (hx : (fillOf 200)[g]? = some x) (hy : (fillOf (i : Int))[g]? = some y) : x ≠ y := by
  rw [fillOf_get _ _ hg] at hx hy
  injection hx with hx
  injection hy with hy
  subst hx hy
  intro e
  have h := congrArg UInt8.toNat e
  simp only [UInt8.toNat_ofNat'] at h
  have e1 : ((200 : Int) % 256).toNat = 200 := rfl
  have e2 : ((i : Int) % 256).toNat = i := by omega
  rw [e1, e2] at h
  omega
theorem cont_at (l : List Int) (i : Nat) (hq : qAt l i < 64) : (cont l i)[qAt l i]? = (fillOf 200)[qAt l i]? := by
  have h := congrArg (fun z => z[0]?) (cont_old l i)
  simp only [List.getElem?_drop, Nat.add_zero] at h
  exact h

theorem vals_drop {w : World} {g g5 : Nat} {f2 : List UInt8} (h : Arr w g5 64 f2) (hl : f2.length = 64) (hg : g ≤ 64) : Vals w [] (some ⟨g5, g, none⟩) ((f2.drop g).map B) := by
  have := (Arr.row h).vals (S := []) (by simp) g (64 - g)
  rw [← List.map_drop, List.take_of_length_le (by rw [List.length_map, List.length_drop]; omega)] at this
  exact this
theorem wpAnyH_one {P : Program} {md : Region.Mode} {ops : Array Oper} {Q : Exit → Act → World → Prop} {S : World → Prop} {fuel : Nat} {listed : Array Bool} {a : Act} {w : World} {i : Nat} {o : Oper} (hr : Region.ready md ops listed = [i]) (ho : ops[i]? = some o) (hw : Region.wanted o (yielded ops a.tmps) = true)
    (h : ∀ K : Act → World → Prop, (∀ a w, S w → wpAnyH P md ops Q S fuel (listed.setIfInBounds i true) a w → K a w) → Oper.wp P o a w K Q) : wpAnyH P md ops Q S (fuel + 1) listed a w :=
  wpAnyH_all hr (by simp) (fun j hj => by
    simp at hj
    subst hj
    unfold wpOp
    simp only [ho, hw, if_true]
    exact .inl (h _ (fun _ _ h1 h2 => ⟨h1, h2⟩)))

set_option linter.unusedSimpArgs false
set_option maxRecDepth 100000 in
set_option maxHeartbeats 1000000 in
theorem walk_out (a0 : Option Addr) (n c : Nat) (w : World) (h : 40 < n) :
    Calls Try.prog 5 #[.slice a0 n c] w fun e w' => e = .returned (.bool true) ∧ Below w.heap.size w w' := by
  go_enter Try.func5, Try.ntmps5
  go_wp2_with (go_at_call 9; refine (awake_any _).mono ?_; rintro e w' ⟨rfl, hb⟩)
  go_ret
  exact ⟨rfl, hb.below (by simp)⟩

set_option maxRecDepth 100000 in
set_option maxHeartbeats 2000000 in
theorem walk_in (f2 : List UInt8) (hf2 : fillOf 200 = f2) (a0 : Option Addr) (m c : Nat) (l : List Int) (w : World) (hv : Vals w [] a0 (l.map I)) (hl : l.length = m) (hm : m ≤ 40) :
    Calls Try.prog 5 #[.slice a0 m c] w fun e w' => e = .returned (.bool true) ∧ Below w.heap.size w w' := by
  have HV := hide hv
  have HL := hide hl
  have HF2 := hide hf2
  have HF2L : Hid (f2.length = 64) := hide (by rw [← hf2]; exact fillOf_length _)
  have HOLD : Hid (∀ i, (cont l i).drop (qAt l i) = f2.drop (qAt l i)) := hide (fun i => by rw [← hf2]; exact cont_old l i)
  have HAT : Hid (∀ i, qAt l i < 64 → (cont l i)[qAt l i]? = f2[qAt l i]?) := hide (fun i h => by rw [← hf2]; exact cont_at l i h)
  have HCR : Hid (∀ (n : Nat) (D : Dk), Run n n (fun j => fillOf (j : Int)) D → (∀ j, j < n → sec D.safe j = f2) → ∀ i, i < n → (D.crash l).read (i : Int) = (0, cont l i)) := hide (fun n D h hs i hi => by rw [← hf2] at hs; exact crash_read h hs i hi)
  clear hv hl hf2
  go_enter Try.func5, Try.ntmps5
  go_wp2_with fail
  refine (mine_new _ (m + 2) w _ (by omega) (Kept.refl _ _) (by omega) (by omega)).mono ?_
  rintro e w1 ⟨F, p, rfl, hmi⟩
  have HM := hide hmi
  clear hmi
  have R0 : Hid (Run (m + 2) 0 (fun _ => f2) (Dk.new (m + 2)) ∧ (Dk.new (m + 2)).acts = 0) := hide ⟨⟨Dk.new_ok _ (by omega) (by omega), new_n _, rfl, rfl, rfl, rfl⟩, rfl⟩
  generalize Dk.new (m + 2) = D0 at *
  go_wp2
  obtain ⟨N, hN⟩ : ∃ N : Nat, m + 2 = N := ⟨_, rfl⟩
  have hN2 : (m : Int) + 2 = N := by omega
  have HN := hide hN
  have hN42 : N ≤ 42 := by omega
  rw [hN] at R0
  rw [hN2]
  clear hN2 hN
  go_loopw [6] (fun i wr => ∃ (k : Nat) (F : List Nat) (D : Dk), k ≤ N ∧ i = .int .i64 k ∧ Hid (Run N k (fun _ => f2) D ∧ D.acts = k) ∧ Hid (Mine w wr F p D)) (fun i wr => N - (intOf i).toNat)
  case atStart => exact ⟨0, F, D0, Nat.zero_le _, rfl, R0, HM⟩
  case round =>
    obtain ⟨k, F, D, hk, rfl, HR, HMR⟩ := hrel
    clear R0 HM
    have hact : D.acts < 1000000 := by have := HR.out.2; have := HN.out; omega
    by_cases hlt : k < N
    · obtain ⟨D', hw, hr', ha', _⟩ := run_write HR.out.1 hlt HF2L.out
      have E1 := hide hw
      have HR' : Hid (Run N (k + 1) (fun _ => f2) D' ∧ D'.acts = k + 1) := hide ⟨hr', by rw [ha', HR.out.2]⟩
      clear hw hr' ha'
      go_wp2_with fail
      refine (mine_fill w F p D 200 _ HMR.out).mono ?_
      rintro e w2 ⟨g2, rfl, hm2, _, hv2, _⟩
      rw [HF2.out] at hv2
      have HM2 := hide hm2
      have HV2 := hide hv2
      clear hm2 hv2
      go_wp2_with fail
      refine (mine_write w F p D k _ 64 64 (f2) 0 D' _ HM2.out hact HV2.out HF2L.out E1.out).mono ?_
      rintro e w3 ⟨rfl, F3, hm3⟩
      have HM3 := hide hm3
      clear hm3 HM2 HV2
      go_wp2
      exact ⟨⟨k + 1, F3, D', by omega, by go_num, HR', HM3⟩, by simp [intOf]; omega⟩
    · obtain rfl : k = N := by omega
      obtain ⟨D1, hf, hr1, ha1, hs1⟩ := run_flush (g := fun j => fillOf (j : Int)) HR.out.1
      have E1 := hide hf
      have HR1 : Hid (Run k 0 (fun j => fillOf (j : Int)) D1 ∧ D1.acts = k + 1 + 0 ∧ ∀ j, j < k → sec D1.safe j = f2) := hide ⟨hr1, by rw [ha1, HR.out.2], hs1⟩
      clear hf hr1 ha1 hs1
      go_wp2_with fail
      refine (mine_flush w F p D 0 D1 _ HMR.out hact E1.out).mono ?_
      rintro e w2 ⟨rfl, F2, hm2⟩
      have HM2 := hide hm2
      clear hm2 HMR HR hact
      go_wp2
      generalize k = N at *
      go_loopw [7] (fun i wr => ∃ (k : Nat) (F : List Nat) (D : Dk), k ≤ N ∧ i = .int .i64 k ∧ Hid (Run N k (fun j => fillOf (j : Int)) D ∧ D.acts = N + 1 + k ∧ ∀ j, j < N → sec D.safe j = f2) ∧ Hid (Mine w wr F p D)) (fun i wr => N - (intOf i).toNat)
      case atStart => exact ⟨0, F2, D1, Nat.zero_le _, rfl, HR1, HM2⟩
      case round =>
        obtain ⟨k, F, D, hk, rfl, HR, HMR⟩ := hrel
        clear HR1 HM2
        have hact : D.acts < 1000000 := by have := HR.out.2.1; have := HN.out; omega
        by_cases hlt : k < N
        · obtain ⟨D', hw, hr', ha', hs'⟩ := run_write HR.out.1 hlt (fillOf_length _)
          have E1 := hide hw
          have HR' : Hid (Run N (k + 1) (fun j => fillOf (j : Int)) D' ∧ D'.acts = N + 1 + (k + 1) ∧ ∀ j, j < N → sec D'.safe j = f2) := hide ⟨hr', by rw [ha', HR.out.2.1]; omega, by rw [hs']; exact HR.out.2.2⟩
          clear hw hr' ha' hs'
          go_wp2_with fail
          refine (mine_fill w F p D (k : Int) _ HMR.out).mono ?_
          rintro e w2 ⟨g2, rfl, hm2, _, hv2, _⟩
          have HM2 := hide hm2
          have HV2 := hide hv2
          clear hm2 hv2
          go_wp2_with fail
          refine (mine_write w F p D k _ 64 64 (fillOf (k : Int)) 0 D' _ HM2.out hact HV2.out (fillOf_length _) E1.out).mono ?_
          rintro e w3 ⟨rfl, F3, hm3⟩
          have HM3 := hide hm3
          clear hm3 HM2 HV2
          go_wp2
          exact ⟨⟨k + 1, F3, D', by omega, by go_num, HR', HM3⟩, by simp [intOf]; omega⟩
        · obtain rfl : k = N := by omega
          go_wp2_with fail
          refine (mine_crash w F p D a0 m c l _ HMR.out (by omega) (HV.out.kept HMR.out.2.2 (by simp)) HL.out).mono ?_
          rintro e w2 ⟨F2, q, rfl, hm2, _, _, _⟩
          have HM2 := hide hm2
          have HRD : Hid (∀ i, i < k → (D.crash l).read (i : Int) = (0, cont l i)) := hide (fun i hi => HCR.out k D HR.out.1 HR.out.2.2 i hi)
          clear hm2 HMR HR hact
          generalize D.crash l = C at *
          generalize k = N at *
          go_wp2
          go_loopw [9, 10] (fun t i wr => ∃ (k tc : Nat), k ≤ N ∧ tc ≤ k ∧ i = .int .i64 k ∧ t = .int .i64 tc ∧ Hid (tornB l k = !(tc == 0)) ∧ Hid (Mine w wr F2 q C)) (fun t i wr => N - (intOf i).toNat)
          case atStart => exact ⟨0, 0, Nat.zero_le _, Nat.le_refl _, rfl, rfl, hide rfl, HM2⟩
          case round =>
            obtain ⟨k, tc, hk, htc, rfl, rfl, HTB, HMR⟩ := hrel
            clear HM2
            by_cases hlt : k < N
            · have hk42 : k < 42 := by have := HN.out; omega
              go_wp2_with fail
              refine (mine_read w F2 q C k 0 (cont l k) 64 _ HMR.out (HRD.out k hlt) (cont_length _ _)).mono ?_
              rintro e w3 ⟨A3, c3, rfl, hf3, hm3, _⟩
              have hc3 : 64 ≤ c3 := hf3.2.1
              have V3 := hide hf3.vals
              have HM3 := hide hm3
              clear hm3 hf3 HMR
              obtain ⟨z0, hz0⟩ : ∃ z0, (cont l k)[0]? = some z0 := ⟨_, List.getElem?_eq_getElem (by rw [cont_length]; omega)⟩
              obtain ⟨ad, rfl, _, _⟩ := V3.out 0 (B z0) (by rw [List.getElem?_map, hz0]; rfl)
              clear hz0
              go_wp2
              go_loopw [13] (fun v wr => ∃ g : Nat, g ≤ qAt l k ∧ v = .int .i64 g ∧ Hid (Vals wr [] (some ad) ((cont l k).map B)) ∧ Hid (Mine w wr F2 q C)) (fun v wr => 64 - (intOf v).toNat)
              case atStart => exact ⟨0, Nat.zero_le _, rfl, V3, HM3⟩
              case round =>
                obtain ⟨g, hg, rfl, HVG, HMG⟩ := hrel
                clear V3 HM3
                have hq64 := qAt_le l k
                by_cases hg64 : g < 64
                · obtain ⟨x, hx⟩ : ∃ x, (cont l k)[g]? = some x := ⟨_, List.getElem?_eq_getElem (by rw [cont_length]; exact hg64)⟩
                  obtain ⟨y, hy⟩ : ∃ y, (fillOf (k : Int))[g]? = some y := ⟨_, List.getElem?_eq_getElem (by rw [fillOf_length]; exact hg64)⟩
                  have hxy : (x = y) ↔ g < qAt l k := by
                    constructor
                    · intro e
                      rcases Nat.lt_or_ge g (qAt l k) with h | h
                      · exact h
                      · obtain rfl : g = qAt l k := by omega
                        rw [HAT.out k hg64] at hx
                        exact absurd e (fill_ne k _ hk42 hg64 x y (by rw [HF2.out]; exact hx) hy)
                    · intro h
                      rw [cont_new l k g h, hy] at hx
                      injection hx with hx
                      exact hx.symm
                  obtain ⟨ad', had, _, hcx⟩ := HVG.out g (B x) (by rw [List.getElem?_map, hx]; rfl)
                  injection had with had
                  subst had
                  unfold B at hcx
                  have HXY := hide hxy
                  have HY := hide hy
                  clear hx hy hxy
                  have gg1 : (0 : Int) ≤ g := by omega
                  have gg2 : (g : Int) < 64 := by omega
                  have gd : decide ((g : Int) < 64) = true := decide_eq_true gg2
                  by_cases he : x = y
                  · have hglt := HXY.out.1 he
                    subst he
                    go_wp2
                    refine wp_region_noPanic ?_
                    refine wp_region_held_drew (S := fun W => W.cell? (ad.add g) = some (.int .u8 (x.toNat : Int))) (by kernel_rfl) (show World.cell? wr.drew (ad.add g) = _ from hcx) (fun hHeld => ?_)
                    refine wpAnyH_take (i := 0) (oi := ⟨some 81, .move (.tmp 13), _, _, _, none⟩) (v := Value.int .i64 (g : Int)) rfl (by kernel_rfl) (by kernel_rfl) (by kernel_rfl) (fun _ _ _ h => h) (Or.inl ⟨by rfl, ?_⟩) (by assumption) ?_
                    · intro W hSW
                      go_simp
                    simp only [Act.put, List.setIfInBounds_toArray, List.set_cons_zero, List.set_cons_succ]
                    refine wpAnyH_take (i := 1) (oi := ⟨some 82, .binOp .lss 3 (.tmp 81) (.const (.int .i64 64)) 3, _, _, _, none⟩) (v := Value.bool true) rfl (by kernel_rfl) (by kernel_rfl) (by kernel_rfl) (fun _ _ _ h => h) (Or.inl ⟨by rfl, ?_⟩) (by assumption) ?_
                    · intro W hSW
                      go_simp
                    simp only [Act.put, List.setIfInBounds_toArray, List.set_cons_zero, List.set_cons_succ]
                    refine wpAnyH_take (i := 2) (oi := ⟨some 83, .move (.tmp 82), _, _, _, none⟩) (v := Value.bool true) rfl (by kernel_rfl) (by kernel_rfl) (by kernel_rfl) (fun _ _ _ h => h) (Or.inl ⟨by rfl, ?_⟩) (by assumption) ?_
                    · intro W hSW
                      go_simp
                    simp only [Act.put, List.setIfInBounds_toArray, List.set_cons_zero, List.set_cons_succ]
                    refine wpAnyH_take (i := 3) (oi := ⟨some 84, .move (.tmp 11), _, _, _, some (2, true)⟩) (v := Value.slice (some ad) 64 c3) rfl (by kernel_rfl) (by kernel_rfl) (by kernel_rfl) (fun _ _ _ h => h) (Or.inl ⟨by rfl, ?_⟩) (by assumption) ?_
                    · intro W hSW
                      go_simp
                    simp only [Act.put, List.setIfInBounds_toArray, List.set_cons_zero, List.set_cons_succ]
                    refine wpAnyH_take (i := 4) (oi := ⟨some 85, .move (.tmp 13), _, _, _, some (2, true)⟩) (v := Value.int .i64 (g : Int)) rfl (by kernel_rfl) (by kernel_rfl) (by kernel_rfl) (fun _ _ _ h => h) (Or.inl ⟨by rfl, ?_⟩) (by assumption) ?_
                    · intro W hSW
                      go_simp
                    simp only [Act.put, List.setIfInBounds_toArray, List.set_cons_zero, List.set_cons_succ]
                    refine wpAnyH_take (i := 5) (oi := ⟨some 86, .indexAddr 34 (.tmp 84) (.tmp 85), _, _, _, some (2, true)⟩) (v := Value.pointer (some (ad.add g))) rfl (by kernel_rfl) (by kernel_rfl) (by kernel_rfl) (fun _ _ _ h => h) (Or.inl ⟨by rfl, ?_⟩) (by assumption) ?_
                    · intro W hSW
                      go_simp
                    simp only [Act.put, List.setIfInBounds_toArray, List.set_cons_zero, List.set_cons_succ]
                    refine wpAnyH_take (i := 6) (oi := ⟨some 87, .load 5 (.tmp 86), _, _, _, some (2, true)⟩) (v := Value.int .u8 (x.toNat : Int)) rfl (by kernel_rfl) (by kernel_rfl) (by kernel_rfl) (fun _ _ _ h => h) (Or.inl ⟨by rfl, ?_⟩) (by assumption) ?_
                    · intro W hSW
                      go_simp
                    simp only [Act.put, List.setIfInBounds_toArray, List.set_cons_zero, List.set_cons_succ]
                    refine wpAnyH_take (i := 7) (oi := ⟨some 88, .move (.tmp 10), _, _, _, some (2, true)⟩) (v := Value.int .i64 (k : Int)) rfl (by kernel_rfl) (by kernel_rfl) (by kernel_rfl) (fun _ _ _ h => h) (Or.inl ⟨by rfl, ?_⟩) (by assumption) ?_
                    · intro W hSW
                      go_simp
                    simp only [Act.put, List.setIfInBounds_toArray, List.set_cons_zero, List.set_cons_succ]
                    refine wpAnyH_take (i := 9) (oi := ⟨some 90, .move (.tmp 13), _, _, _, some (2, true)⟩) (v := Value.int .i64 (g : Int)) rfl (by kernel_rfl) (by kernel_rfl) (by kernel_rfl) (fun _ _ _ h => h) (Or.inl ⟨by rfl, ?_⟩) (by assumption) ?_
                    · intro W hSW
                      go_simp
                    simp only [Act.put, List.setIfInBounds_toArray, List.set_cons_zero, List.set_cons_succ]
                    refine wpAnyH_one (i := 8) (o := ⟨some 89, .call { callee := .value (.func 13), args := #[.tmp 88], argTypes := #[3] }, _, _, _, some (2, true)⟩) (by kernel_rfl) rfl (by rfl) (fun K hK => ?_)
                    go_simp
                    refine (fill_any (k : Int) _).mono ?_
                    rintro e w4 ⟨g4, rfl, hg4, ha4, hk4⟩
                    have s1 : w4.cell? (ad.add g) = some (.int .u8 (x.toNat : Int)) := hk4.cell (p := ad.add g) (show World.cell? _ _ = _ from hcx) (by simp)
                    have s2 : w4.cell? ⟨g4, g, none⟩ = some (.int .u8 (x.toNat : Int)) := ha4.at_ HY.out
                    have HK4 : Hid (Kept [] wr w4) := hide (((Kept.refl [] wr).drew).trans hk4 (by simp))
                    clear ha4 hk4 hHeld
                    refine hK _ _ s1 ?_
                    clear hK K
                    have hHeld : (fun W : World => W.cell? (ad.add g) = some (.int .u8 (x.toNat : Int))) w4 := s1
                    try simp only [Act.put, List.setIfInBounds_toArray, List.set_cons_zero, List.set_cons_succ]
                    refine wpAnyH_take (i := 10) (oi := ⟨some 91, .indexAddr 34 (.tmp 89) (.tmp 90), _, _, _, some (2, true)⟩) (v := Value.pointer (some ⟨g4, g, none⟩)) rfl (by kernel_rfl) (by kernel_rfl) (by kernel_rfl) (fun _ _ _ h => h) (Or.inl ⟨by rfl, ?_⟩) (by assumption) ?_
                    · intro W hSW
                      go_simp
                    simp only [Act.put, List.setIfInBounds_toArray, List.set_cons_zero, List.set_cons_succ]
                    refine wpAnyH_one (i := 11) (o := ⟨some 92, .load 5 (.tmp 91), _, _, _, some (2, true)⟩) (by kernel_rfl) rfl (by rfl) (fun K hK => ?_)
                    go_simp
                    refine hK _ _ s1 ?_
                    clear hK K
                    refine wpAnyH_take (i := 12) (oi := ⟨some 93, .binOp .eql 5 (.tmp 87) (.tmp 92) 5, _, _, _, some (2, true)⟩) (v := Value.bool true) rfl (by kernel_rfl) (by kernel_rfl) (by kernel_rfl) (fun _ _ _ h => h) (Or.inl ⟨by rfl, ?_⟩) (by assumption) ?_
                    · intro W hSW
                      go_simp
                    simp only [Act.put, List.setIfInBounds_toArray, List.set_cons_zero, List.set_cons_succ]
                    refine wpAnyH_take (i := 13) (oi := ⟨some 94, .pick (.tmp 83) (.tmp 93) (.const (.bool false)), _, _, _, none⟩) (v := Value.bool true) rfl (by kernel_rfl) (by kernel_rfl) (by kernel_rfl) (fun _ _ _ h => h) (Or.inl ⟨by rfl, ?_⟩) (by assumption) ?_
                    · intro W hSW
                      go_simp
                    simp only [Act.put, List.setIfInBounds_toArray, List.set_cons_zero, List.set_cons_succ]
                    refine wpAnyH_done (by kernel_rfl) ?_ _
                    refine NoPanic.normal ?_
                    have HM4 := hide (HMG.out.kept HK4.out)
                    have HV4 := hide (HVG.out.kept HK4.out (by simp))
                    clear HK4 hcx s1 s2 gd hHeld
                    go_wp2
                    exact ⟨⟨g + 1, by omega, by go_num, HV4, HM4⟩, by simp [intOf]; omega⟩
                  · have hge : g = qAt l k := by
                      rcases Nat.lt_or_ge g (qAt l k) with h | h
                      · exact absurd (HXY.out.2 h) he
                      · omega
                    have hne : ((x.toNat : Int) == (y.toNat : Int)) = false := beq_eq_false_iff_ne.2 (fun e => he (UInt8.toNat_inj.1 (by omega)))
                    have HE := hide he
                    have HGE := hide hge
                    clear he HXY hge
                    go_wp2
                    refine wp_region_noPanic ?_
                    refine wp_region_held_drew (S := fun W => W.cell? (ad.add g) = some (.int .u8 (x.toNat : Int))) (by kernel_rfl) (show World.cell? wr.drew (ad.add g) = _ from hcx) (fun hHeld => ?_)
                    refine wpAnyH_take (i := 0) (oi := ⟨some 81, .move (.tmp 13), _, _, _, none⟩) (v := Value.int .i64 (g : Int)) rfl (by kernel_rfl) (by kernel_rfl) (by kernel_rfl) (fun _ _ _ h => h) (Or.inl ⟨by rfl, ?_⟩) (by assumption) ?_
                    · intro W hSW
                      go_simp
                    simp only [Act.put, List.setIfInBounds_toArray, List.set_cons_zero, List.set_cons_succ]
                    refine wpAnyH_take (i := 1) (oi := ⟨some 82, .binOp .lss 3 (.tmp 81) (.const (.int .i64 64)) 3, _, _, _, none⟩) (v := Value.bool true) rfl (by kernel_rfl) (by kernel_rfl) (by kernel_rfl) (fun _ _ _ h => h) (Or.inl ⟨by rfl, ?_⟩) (by assumption) ?_
                    · intro W hSW
                      go_simp
                    simp only [Act.put, List.setIfInBounds_toArray, List.set_cons_zero, List.set_cons_succ]
                    refine wpAnyH_take (i := 2) (oi := ⟨some 83, .move (.tmp 82), _, _, _, none⟩) (v := Value.bool true) rfl (by kernel_rfl) (by kernel_rfl) (by kernel_rfl) (fun _ _ _ h => h) (Or.inl ⟨by rfl, ?_⟩) (by assumption) ?_
                    · intro W hSW
                      go_simp
                    simp only [Act.put, List.setIfInBounds_toArray, List.set_cons_zero, List.set_cons_succ]
                    refine wpAnyH_take (i := 3) (oi := ⟨some 84, .move (.tmp 11), _, _, _, some (2, true)⟩) (v := Value.slice (some ad) 64 c3) rfl (by kernel_rfl) (by kernel_rfl) (by kernel_rfl) (fun _ _ _ h => h) (Or.inl ⟨by rfl, ?_⟩) (by assumption) ?_
                    · intro W hSW
                      go_simp
                    simp only [Act.put, List.setIfInBounds_toArray, List.set_cons_zero, List.set_cons_succ]
                    refine wpAnyH_take (i := 4) (oi := ⟨some 85, .move (.tmp 13), _, _, _, some (2, true)⟩) (v := Value.int .i64 (g : Int)) rfl (by kernel_rfl) (by kernel_rfl) (by kernel_rfl) (fun _ _ _ h => h) (Or.inl ⟨by rfl, ?_⟩) (by assumption) ?_
                    · intro W hSW
                      go_simp
                    simp only [Act.put, List.setIfInBounds_toArray, List.set_cons_zero, List.set_cons_succ]
                    refine wpAnyH_take (i := 5) (oi := ⟨some 86, .indexAddr 34 (.tmp 84) (.tmp 85), _, _, _, some (2, true)⟩) (v := Value.pointer (some (ad.add g))) rfl (by kernel_rfl) (by kernel_rfl) (by kernel_rfl) (fun _ _ _ h => h) (Or.inl ⟨by rfl, ?_⟩) (by assumption) ?_
                    · intro W hSW
                      go_simp
                    simp only [Act.put, List.setIfInBounds_toArray, List.set_cons_zero, List.set_cons_succ]
                    refine wpAnyH_take (i := 6) (oi := ⟨some 87, .load 5 (.tmp 86), _, _, _, some (2, true)⟩) (v := Value.int .u8 (x.toNat : Int)) rfl (by kernel_rfl) (by kernel_rfl) (by kernel_rfl) (fun _ _ _ h => h) (Or.inl ⟨by rfl, ?_⟩) (by assumption) ?_
                    · intro W hSW
                      go_simp
                    simp only [Act.put, List.setIfInBounds_toArray, List.set_cons_zero, List.set_cons_succ]
                    refine wpAnyH_take (i := 7) (oi := ⟨some 88, .move (.tmp 10), _, _, _, some (2, true)⟩) (v := Value.int .i64 (k : Int)) rfl (by kernel_rfl) (by kernel_rfl) (by kernel_rfl) (fun _ _ _ h => h) (Or.inl ⟨by rfl, ?_⟩) (by assumption) ?_
                    · intro W hSW
                      go_simp
                    simp only [Act.put, List.setIfInBounds_toArray, List.set_cons_zero, List.set_cons_succ]
                    refine wpAnyH_take (i := 9) (oi := ⟨some 90, .move (.tmp 13), _, _, _, some (2, true)⟩) (v := Value.int .i64 (g : Int)) rfl (by kernel_rfl) (by kernel_rfl) (by kernel_rfl) (fun _ _ _ h => h) (Or.inl ⟨by rfl, ?_⟩) (by assumption) ?_
                    · intro W hSW
                      go_simp
                    simp only [Act.put, List.setIfInBounds_toArray, List.set_cons_zero, List.set_cons_succ]
                    refine wpAnyH_one (i := 8) (o := ⟨some 89, .call { callee := .value (.func 13), args := #[.tmp 88], argTypes := #[3] }, _, _, _, some (2, true)⟩) (by kernel_rfl) rfl (by rfl) (fun K hK => ?_)
                    go_simp
                    refine (fill_any (k : Int) _).mono ?_
                    rintro e w4 ⟨g4, rfl, hg4, ha4, hk4⟩
                    have s1 : w4.cell? (ad.add g) = some (.int .u8 (x.toNat : Int)) := hk4.cell (p := ad.add g) (show World.cell? _ _ = _ from hcx) (by simp)
                    have s2 : w4.cell? ⟨g4, g, none⟩ = some (.int .u8 (y.toNat : Int)) := ha4.at_ HY.out
                    have HK4 : Hid (Kept [] wr w4) := hide (((Kept.refl [] wr).drew).trans hk4 (by simp))
                    clear ha4 hk4 hHeld
                    refine hK _ _ s1 ?_
                    clear hK K
                    have hHeld : (fun W : World => W.cell? (ad.add g) = some (.int .u8 (x.toNat : Int))) w4 := s1
                    try simp only [Act.put, List.setIfInBounds_toArray, List.set_cons_zero, List.set_cons_succ]
                    refine wpAnyH_take (i := 10) (oi := ⟨some 91, .indexAddr 34 (.tmp 89) (.tmp 90), _, _, _, some (2, true)⟩) (v := Value.pointer (some ⟨g4, g, none⟩)) rfl (by kernel_rfl) (by kernel_rfl) (by kernel_rfl) (fun _ _ _ h => h) (Or.inl ⟨by rfl, ?_⟩) (by assumption) ?_
                    · intro W hSW
                      go_simp
                    simp only [Act.put, List.setIfInBounds_toArray, List.set_cons_zero, List.set_cons_succ]
                    refine wpAnyH_one (i := 11) (o := ⟨some 92, .load 5 (.tmp 91), _, _, _, some (2, true)⟩) (by kernel_rfl) rfl (by rfl) (fun K hK => ?_)
                    go_simp
                    refine hK _ _ s1 ?_
                    clear hK K
                    refine wpAnyH_take (i := 12) (oi := ⟨some 93, .binOp .eql 5 (.tmp 87) (.tmp 92) 5, _, _, _, some (2, true)⟩) (v := Value.bool false) rfl (by kernel_rfl) (by kernel_rfl) (by kernel_rfl) (fun _ _ _ h => h) (Or.inl ⟨by rfl, ?_⟩) (by assumption) ?_
                    · intro W hSW
                      go_simp
                    simp only [Act.put, List.setIfInBounds_toArray, List.set_cons_zero, List.set_cons_succ]
                    refine wpAnyH_take (i := 13) (oi := ⟨some 94, .pick (.tmp 83) (.tmp 93) (.const (.bool false)), _, _, _, none⟩) (v := Value.bool false) rfl (by kernel_rfl) (by kernel_rfl) (by kernel_rfl) (fun _ _ _ h => h) (Or.inl ⟨by rfl, ?_⟩) (by assumption) ?_
                    · intro W hSW
                      go_simp
                    simp only [Act.put, List.setIfInBounds_toArray, List.set_cons_zero, List.set_cons_succ]
                    refine wpAnyH_done (by kernel_rfl) ?_ _
                    refine NoPanic.normal ?_
                    have HM4 := hide (HMG.out.kept HK4.out)
                    have HV4 := hide (HVG.out.kept HK4.out (by simp))
                    clear HK4 hcx s1 s2 gd hHeld
                    go_wp2
                    have hcg : ¬ c3 = g := by omega
                    have V5 : Hid (Vals w4 [] (some (ad.add g)) (((cont l k).drop g).map B)) := hide (by
                      have := HV4.out.cut g (64 - g)
                      rw [← List.map_drop, List.take_of_length_le (by rw [List.length_map, List.length_drop, cont_length]; omega)] at this
                      exact this)
                    have HEQ : Hid ((cont l k).drop g = f2.drop g) := hide (by rw [HGE.out]; exact HOLD.out k)
                    have HLX : Hid ((f2.drop g).length = 64 - g) := hide (by rw [List.length_drop, HF2L.out])
                    have gg3 : (g : Int) ≤ 64 := by omega
                    have gg4 : g ≤ 64 := by omega
                    have gg5 : (g : Int) ≤ c3 := by omega
                    have gg6 : ¬ 64 = g := by omega
                    go_wp2
                    refine wp_region_noPanic ?_
                    refine wp_region_held_drew (S := fun _ => True) (by kernel_rfl) trivial (fun hHeld => ?_)
                    clear hHeld
                    refine wpAnyH_take (i := 0) (oi := ⟨some 97, .move (.tmp 11), _, _, _, none⟩) (v := Value.slice (some ad) 64 c3) rfl (by kernel_rfl) (by kernel_rfl) (by kernel_rfl) (fun _ _ _ h => h) (Or.inl ⟨by rfl, ?_⟩) (by trivial) ?_
                    · intro W hSW
                      go_simp
                    try simp only [Act.put, List.setIfInBounds_toArray, List.set_cons_zero, List.set_cons_succ]
                    refine wpAnyH_take (i := 1) (oi := ⟨some 98, .move (.tmp 13), _, _, _, none⟩) (v := Value.int .i64 (g : Int)) rfl (by kernel_rfl) (by kernel_rfl) (by kernel_rfl) (fun _ _ _ h => h) (Or.inl ⟨by rfl, ?_⟩) (by trivial) ?_
                    · intro W hSW
                      go_simp
                    try simp only [Act.put, List.setIfInBounds_toArray, List.set_cons_zero, List.set_cons_succ]
                    refine wpAnyH_take (i := 2) (oi := ⟨some 99, .slice 34 (.tmp 97) (some (.tmp 98)) none none, _, _, _, none⟩) (v := Value.slice (some (ad.add g)) (64 - g) (c3 - g)) rfl (by kernel_rfl) (by kernel_rfl) (by kernel_rfl) (fun _ _ _ h => h) (Or.inl ⟨by rfl, ?_⟩) (by trivial) ?_
                    · intro W hSW
                      go_simp
                    try simp only [Act.put, List.setIfInBounds_toArray, List.set_cons_zero, List.set_cons_succ]
                    refine wpAnyH_take (i := 4) (oi := ⟨some 101, .move (.tmp 13), _, _, _, none⟩) (v := Value.int .i64 (g : Int)) rfl (by kernel_rfl) (by kernel_rfl) (by kernel_rfl) (fun _ _ _ h => h) (Or.inl ⟨by rfl, ?_⟩) (by trivial) ?_
                    · intro W hSW
                      go_simp
                    try simp only [Act.put, List.setIfInBounds_toArray, List.set_cons_zero, List.set_cons_succ]
                    refine wpAnyH_one (i := 3) (o := ⟨some 100, .call { callee := .value (.func 13), args := #[.const (.int .i64 200)], argTypes := #[3] }, _, _, _, none⟩) (by kernel_rfl) rfl (by rfl) (fun K hK => ?_)
                    go_simp
                    refine (fill_any 200 _).mono ?_
                    rintro e w5 ⟨g5, rfl, hg5, ha5, hk5⟩
                    rw [HF2.out] at ha5
                    have HA5 := hide ha5
                    have HK5 : Hid (Kept [] w4 w5) := hide (((Kept.refl [] w4).drew).trans hk5 (by simp))
                    clear ha5 hk5
                    refine hK _ _ trivial ?_
                    clear hK K
                    try simp only [Act.put, List.setIfInBounds_toArray, List.set_cons_zero, List.set_cons_succ]
                    refine wpAnyH_take (i := 5) (oi := ⟨some 102, .slice 34 (.tmp 100) (some (.tmp 101)) none none, _, _, _, none⟩) (v := Value.slice (some ⟨g5, g, none⟩) (64 - g) (64 - g)) rfl (by kernel_rfl) (by kernel_rfl) (by kernel_rfl) (fun _ _ _ h => h) (Or.inl ⟨by rfl, ?_⟩) (by trivial) ?_
                    · intro W hSW
                      go_simp
                    try simp only [Act.put, List.setIfInBounds_toArray, List.set_cons_zero, List.set_cons_succ]
                    refine wpAnyH_one (i := 6) (o := ⟨some 103, .call { callee := .value (.func 19), args := #[.tmp 99, .tmp 102], argTypes := #[34, 34] }, _, _, _, none⟩) (by kernel_rfl) rfl (by rfl) (fun K hK => ?_)
                    go_simp
                    refine (bytes_any (some (ad.add g)) (some ⟨g5, g, none⟩) (64 - g) (64 - g) _ _ (f2.drop g) (f2.drop g) _ HLX.out HLX.out (by rw [← HEQ.out]; exact V5.out.kept HK5.out (by simp)) (vals_drop HA5.out HF2L.out (by omega)) (by omega)).mono ?_
                    rintro e w6 ⟨rfl, k6, rfl⟩
                    rw [decide_eq_true (rfl : (f2.drop g) = (f2.drop g))]
                    refine hK _ _ trivial ?_
                    clear hK K
                    try simp only [Act.put, List.setIfInBounds_toArray, List.set_cons_zero, List.set_cons_succ]
                    refine wpAnyH_take (i := 7) (oi := ⟨some 104, .unOp .not 4 (.tmp 103), _, _, _, none⟩) (v := Value.bool false) rfl (by kernel_rfl) (by kernel_rfl) (by kernel_rfl) (fun _ _ _ h => h) (Or.inl ⟨by rfl, ?_⟩) (by trivial) ?_
                    · intro W hSW
                      go_simp
                    try simp only [Act.put, List.setIfInBounds_toArray, List.set_cons_zero, List.set_cons_succ]
                    refine wpAnyH_done (by kernel_rfl) ?_ _
                    refine NoPanic.normal ?_
                    have HM6 := hide ((HM4.out.kept HK5.out).drewN k6)
                    clear HA5 HK5 V5 HEQ HLX HM4 HV4
                    generalize w5.drewN k6 = w6 at *
                    have hp192 := pickAt_lt l k
                    by_cases hin : k < m
                    · have hkl : k < l.length := by rw [HL.out]; exact hin
                      obtain ⟨ad2, rfl, _, hc0⟩ := (HV.out.kept HM6.out.2.2 (by simp)) k (I l[k]) (by rw [List.getElem?_map, List.getElem?_eq_getElem hkl]; rfl)
                      have hpp : (l[k] % 192 : Int) = (pickAt l k : Nat) := by
                        unfold pickAt
                        rw [List.getD_eq_getElem?_getD, List.getElem?_eq_getElem hkl, Option.getD_some]
                        omega
                      unfold I at hc0
                      generalize l[k] = xx at hc0 hpp
                      have HPP := hide hpp
                      clear hpp hkl
                      obtain ⟨P, hP⟩ : ∃ P, pickAt l k = P := ⟨_, rfl⟩
                      have HPE := hide hP
                      rw [hP] at hp192
                      clear hP
                      go_wp2_with fail
                      refine (round_any xx 192 _ (by omega) (by omega)).mono ?_
                      rintro e w9 ⟨rfl, rfl⟩
                      rw [HPP.out, HPE.out]
                      by_cases hq1 : P % 3 = 1
                      · have e3 : (P : Int).tmod 3 = 1 := by rw [Int.tmod_eq_emod_of_nonneg (by omega)]; omega
                        have hqv : g = 64 := by rw [HGE.out]; unfold qAt; rw [HPE.out, if_pos hq1]
                        have hgn : ((g : Int) != 64) = false := by rw [bne_eq_false_iff_eq]; omega
                        have HQ1 := hide hq1
                        clear hq1 hqv
                        go_wp2
                        have HTB2 : Hid (tornB l (k + 1) = !(tc == 0)) := hide (by
                          show (tornB l k || (pickAt l k % 3 == 2)) = _
                          rw [HTB.out, HPE.out]
                          have := HQ1.out; cases tc <;> simp [this])
                        exact ⟨⟨k + 1, tc, by omega, by omega, by go_num, by go_num, HTB2, HM6⟩, by simp [intOf]; omega⟩
                      · by_cases hq2 : P % 3 = 2
                        · have e3 : (P : Int).tmod 3 = 2 := by rw [Int.tmod_eq_emod_of_nonneg (by omega)]; omega
                          have HQ2 := hide hq2
                          by_cases htc0 : tc = 0
                          · subst htc0
                            obtain ⟨t, ht⟩ : ∃ t, P / 3 = t := ⟨_, rfl⟩
                            have hqv : g = t := by rw [HGE.out]; unfold qAt; rw [HPE.out, if_neg hq1, if_pos ⟨hq2, by rw [HTB.out]; rfl⟩, ht]
                            have e4 : (P : Int).tdiv 3 = t := by rw [Int.tdiv_eq_ediv_of_nonneg (by omega)]; omega
                            have e5 : (P : Int) / 3 = t := by omega
                            have e6 : IntKind.i64.wrap (t : Int) = t := IntWalk.i64_in _ (by omega)
                            have hgn : ((g : Int) != (t : Int)) = false := by rw [bne_eq_false_iff_eq]; omega
                            clear hq1 hq2 hqv ht
                            go_wp2
                            have HTB2 : Hid (tornB l (k + 1) = !(1 == 0)) := hide (by
                              show (tornB l k || (pickAt l k % 3 == 2)) = _
                              rw [HTB.out, HPE.out]
                              have := HQ2.out; simp [this])
                            exact ⟨⟨k + 1, 1, by omega, by omega, by go_num, by go_num, HTB2, HM6⟩, by simp [intOf]; omega⟩
                          · have hqv : g = 0 := by rw [HGE.out]; unfold qAt; rw [HPE.out, if_neg hq1, if_neg (fun h => by rw [HTB.out] at h; simp [htc0] at h)]
                            have htc1 : ((tc : Int) + 1 == 1) = false := beq_eq_false_iff_ne.2 (by omega)
                            have htc2 : ((tc : Int) == 0) = false := beq_eq_false_iff_ne.2 (by omega)
                            have hgn : ((g : Int) != 0) = false := by rw [bne_eq_false_iff_eq]; omega
                            have HTC := hide htc0
                            clear hq1 hq2 hqv htc0
                            go_wp2
                            have HTB2 : Hid (tornB l (k + 1) = !(tc + 1 == 0)) := hide (by
                              show (tornB l k || (pickAt l k % 3 == 2)) = _
                              rw [HTB.out, HPE.out]
                              have := HQ2.out; simp [this])
                            exact ⟨⟨k + 1, tc + 1, by omega, by omega, by go_num, by go_num, HTB2, HM6⟩, by simp [intOf]; omega⟩
                        · have e3 : (P : Int).tmod 3 = 0 := by rw [Int.tmod_eq_emod_of_nonneg (by omega)]; omega
                          have hqv : g = 0 := by rw [HGE.out]; unfold qAt; rw [HPE.out, if_neg hq1, if_neg (fun h => hq2 h.1)]
                          have hgn : ((g : Int) != 0) = false := by rw [bne_eq_false_iff_eq]; omega
                          have HQ2 := hide hq2
                          clear hq1 hq2 hqv
                          go_wp2
                          have HTB2 : Hid (tornB l (k + 1) = !(tc == 0)) := hide (by
                            show (tornB l k || (pickAt l k % 3 == 2)) = _
                            rw [HTB.out, HPE.out]
                            have := HQ2.out; simp [this])
                          exact ⟨⟨k + 1, tc, by omega, by omega, by go_num, by go_num, HTB2, HM6⟩, by simp [intOf]; omega⟩
                    · have HPE : Hid (pickAt l k = 0) := hide (by unfold pickAt; rw [List.getD_eq_getElem?_getD, List.getElem?_eq_none (by rw [HL.out]; omega)]; rfl)
                      have hqv : g = 0 := by rw [HGE.out]; unfold qAt; rw [HPE.out]; rfl
                      have hgn : ((g : Int) != 0) = false := by rw [bne_eq_false_iff_eq]; omega
                      clear hqv
                      go_wp2
                      have HTB2 : Hid (tornB l (k + 1) = !(tc == 0)) := hide (by
                        show (tornB l k || (pickAt l k % 3 == 2)) = _
                        rw [HTB.out, HPE.out]
                        simp)
                      exact ⟨⟨k + 1, tc, by omega, by omega, by go_num, by go_num, HTB2, HM6⟩, by simp [intOf]; omega⟩
                · obtain rfl : g = 64 := by omega
                  have hge : 64 = qAt l k := by omega
                  have HGE := hide hge
                  clear hge hg hg64 hq64
                  have gd : decide ((64 : Int) < 64) = false := by decide
                  go_wp2
                  go_quiet (fail)
                  have HM4 := hide (HMG.out.drewN nq)
                  clear HMG HVG gd
                  generalize wr.drewN nq = w4 at *
                  by_cases hc3' : c3 = 64
                  · subst hc3'
                    go_wp2
                    go_region_held3 (fun _ => True) (trivial)
                      (first
                        | (go_at_call 13; refine (fill_any 200 _).mono ?_; rintro e w5 ⟨g5, rfl, hg5, ha5, hk5⟩; have HK5 : Hid (Kept [] w4 w5) := hide (((Kept.refl [] w4).drew).trans hk5 (by simp)); clear ha5 hk5)
                        | (have hx5 := HK5.out; go_at_call 19; refine (bytes_any _ _ 0 0 _ _ [] [] _ rfl rfl (Vals.nil _ _ _) (Vals.nil _ _ _) (by omega)).mono ?_; rintro e w6 ⟨rfl, k6, rfl⟩; clear hx5))
                    try rw [decide_eq_true (rfl : ([] : List UInt8) = [])]
                    have HM6 := hide ((HM4.out.kept HK5.out).drewN k6)
                    clear HK5 HM4
                    generalize w5.drewN k6 = w6 at *
                    have hp192 := pickAt_lt l k
                    by_cases hin : k < m
                    · have hkl : k < l.length := by rw [HL.out]; exact hin
                      obtain ⟨ad2, rfl, _, hc0⟩ := (HV.out.kept HM6.out.2.2 (by simp)) k (I l[k]) (by rw [List.getElem?_map, List.getElem?_eq_getElem hkl]; rfl)
                      have hpp : (l[k] % 192 : Int) = (pickAt l k : Nat) := by
                        unfold pickAt
                        rw [List.getD_eq_getElem?_getD, List.getElem?_eq_getElem hkl, Option.getD_some]
                        omega
                      unfold I at hc0
                      generalize l[k] = xx at hc0 hpp
                      have HPP := hide hpp
                      clear hpp hkl
                      obtain ⟨P, hP⟩ : ∃ P, pickAt l k = P := ⟨_, rfl⟩
                      have HPE := hide hP
                      rw [hP] at hp192
                      clear hP
                      go_wp2_with fail
                      refine (round_any xx 192 _ (by omega) (by omega)).mono ?_
                      rintro e w9 ⟨rfl, rfl⟩
                      rw [HPP.out, HPE.out]
                      by_cases hq1 : P % 3 = 1
                      · have e3 : (P : Int).tmod 3 = 1 := by rw [Int.tmod_eq_emod_of_nonneg (by omega)]; omega
                        have hqv : 64 = 64 := rfl
                        have hgn : ((64 : Int) != 64) = false := by decide
                        have HQ1 := hide hq1
                        clear hq1 hqv
                        go_wp2
                        have HTB2 : Hid (tornB l (k + 1) = !(tc == 0)) := hide (by
                          show (tornB l k || (pickAt l k % 3 == 2)) = _
                          rw [HTB.out, HPE.out]
                          have := HQ1.out; cases tc <;> simp [this])
                        exact ⟨⟨k + 1, tc, by omega, by omega, by go_num, by go_num, HTB2, HM6⟩, by simp [intOf]; omega⟩
                      · by_cases hq2 : P % 3 = 2
                        · have e3 : (P : Int).tmod 3 = 2 := by rw [Int.tmod_eq_emod_of_nonneg (by omega)]; omega
                          have HQ2 := hide hq2
                          by_cases htc0 : tc = 0
                          · subst htc0
                            obtain ⟨t, ht⟩ : ∃ t, P / 3 = t := ⟨_, rfl⟩
                            have hqv : 64 = t := by rw [HGE.out]; unfold qAt; rw [HPE.out, if_neg hq1, if_pos ⟨hq2, by rw [HTB.out]; rfl⟩, ht]
                            have e4 : (P : Int).tdiv 3 = t := by rw [Int.tdiv_eq_ediv_of_nonneg (by omega)]; omega
                            have e5 : (P : Int) / 3 = t := by omega
                            have e6 : IntKind.i64.wrap (t : Int) = t := IntWalk.i64_in _ (by omega)
                            have hgn : ((64 : Int) != (t : Int)) = false := by rw [bne_eq_false_iff_eq]; omega
                            clear hq1 hq2 hqv ht
                            go_wp2
                            have HTB2 : Hid (tornB l (k + 1) = !(1 == 0)) := hide (by
                              show (tornB l k || (pickAt l k % 3 == 2)) = _
                              rw [HTB.out, HPE.out]
                              have := HQ2.out; simp [this])
                            exact ⟨⟨k + 1, 1, by omega, by omega, by go_num, by go_num, HTB2, HM6⟩, by simp [intOf]; omega⟩
                          · have hqv : 64 = 0 := by rw [HGE.out]; unfold qAt; rw [HPE.out, if_neg hq1, if_neg (fun h => by rw [HTB.out] at h; simp [htc0] at h)]
                            have htc1 : ((tc : Int) + 1 == 1) = false := beq_eq_false_iff_ne.2 (by omega)
                            have htc2 : ((tc : Int) == 0) = false := beq_eq_false_iff_ne.2 (by omega)
                            have hgn : ((64 : Int) != 0) = false := by rw [bne_eq_false_iff_eq]; omega
                            have HTC := hide htc0
                            clear hq1 hq2 hqv htc0
                            go_wp2
                            have HTB2 : Hid (tornB l (k + 1) = !(tc + 1 == 0)) := hide (by
                              show (tornB l k || (pickAt l k % 3 == 2)) = _
                              rw [HTB.out, HPE.out]
                              have := HQ2.out; simp [this])
                            exact ⟨⟨k + 1, tc + 1, by omega, by omega, by go_num, by go_num, HTB2, HM6⟩, by simp [intOf]; omega⟩
                        · have e3 : (P : Int).tmod 3 = 0 := by rw [Int.tmod_eq_emod_of_nonneg (by omega)]; omega
                          have hqv : 64 = 0 := by rw [HGE.out]; unfold qAt; rw [HPE.out, if_neg hq1, if_neg (fun h => hq2 h.1)]
                          have hgn : ((64 : Int) != 0) = false := by rw [bne_eq_false_iff_eq]; omega
                          have HQ2 := hide hq2
                          clear hq1 hq2 hqv
                          go_wp2
                          have HTB2 : Hid (tornB l (k + 1) = !(tc == 0)) := hide (by
                            show (tornB l k || (pickAt l k % 3 == 2)) = _
                            rw [HTB.out, HPE.out]
                            have := HQ2.out; simp [this])
                          exact ⟨⟨k + 1, tc, by omega, by omega, by go_num, by go_num, HTB2, HM6⟩, by simp [intOf]; omega⟩
                    · have HPE : Hid (pickAt l k = 0) := hide (by unfold pickAt; rw [List.getD_eq_getElem?_getD, List.getElem?_eq_none (by rw [HL.out]; omega)]; rfl)
                      have hqv : 64 = 0 := by rw [HGE.out]; unfold qAt; rw [HPE.out]; rfl
                      have hgn : ((64 : Int) != 0) = false := by rw [bne_eq_false_iff_eq]; omega
                      clear hqv
                      go_wp2
                      have HTB2 : Hid (tornB l (k + 1) = !(tc == 0)) := hide (by
                        show (tornB l k || (pickAt l k % 3 == 2)) = _
                        rw [HTB.out, HPE.out]
                        simp)
                      exact ⟨⟨k + 1, tc, by omega, by omega, by go_num, by go_num, HTB2, HM6⟩, by simp [intOf]; omega⟩
                  · have hc64 : ¬ c3 = 64 := hc3'
                    go_wp2
                    go_region_held3 (fun _ => True) (trivial)
                      (first
                        | (go_at_call 13; refine (fill_any 200 _).mono ?_; rintro e w5 ⟨g5, rfl, hg5, ha5, hk5⟩; have HK5 : Hid (Kept [] w4 w5) := hide (((Kept.refl [] w4).drew).trans hk5 (by simp)); clear ha5 hk5)
                        | (have hx5 := HK5.out; go_at_call 19; refine (bytes_any _ _ 0 0 _ _ [] [] _ rfl rfl (Vals.nil _ _ _) (Vals.nil _ _ _) (by omega)).mono ?_; rintro e w6 ⟨rfl, k6, rfl⟩; clear hx5))
                    try rw [decide_eq_true (rfl : ([] : List UInt8) = [])]
                    have HM6 := hide ((HM4.out.kept HK5.out).drewN k6)
                    clear HK5 HM4
                    generalize w5.drewN k6 = w6 at *
                    have hp192 := pickAt_lt l k
                    by_cases hin : k < m
                    · have hkl : k < l.length := by rw [HL.out]; exact hin
                      obtain ⟨ad2, rfl, _, hc0⟩ := (HV.out.kept HM6.out.2.2 (by simp)) k (I l[k]) (by rw [List.getElem?_map, List.getElem?_eq_getElem hkl]; rfl)
                      have hpp : (l[k] % 192 : Int) = (pickAt l k : Nat) := by
                        unfold pickAt
                        rw [List.getD_eq_getElem?_getD, List.getElem?_eq_getElem hkl, Option.getD_some]
                        omega
                      unfold I at hc0
                      generalize l[k] = xx at hc0 hpp
                      have HPP := hide hpp
                      clear hpp hkl
                      obtain ⟨P, hP⟩ : ∃ P, pickAt l k = P := ⟨_, rfl⟩
                      have HPE := hide hP
                      rw [hP] at hp192
                      clear hP
                      go_wp2_with fail
                      refine (round_any xx 192 _ (by omega) (by omega)).mono ?_
                      rintro e w9 ⟨rfl, rfl⟩
                      rw [HPP.out, HPE.out]
                      by_cases hq1 : P % 3 = 1
                      · have e3 : (P : Int).tmod 3 = 1 := by rw [Int.tmod_eq_emod_of_nonneg (by omega)]; omega
                        have hqv : 64 = 64 := rfl
                        have hgn : ((64 : Int) != 64) = false := by decide
                        have HQ1 := hide hq1
                        clear hq1 hqv
                        go_wp2
                        have HTB2 : Hid (tornB l (k + 1) = !(tc == 0)) := hide (by
                          show (tornB l k || (pickAt l k % 3 == 2)) = _
                          rw [HTB.out, HPE.out]
                          have := HQ1.out; cases tc <;> simp [this])
                        exact ⟨⟨k + 1, tc, by omega, by omega, by go_num, by go_num, HTB2, HM6⟩, by simp [intOf]; omega⟩
                      · by_cases hq2 : P % 3 = 2
                        · have e3 : (P : Int).tmod 3 = 2 := by rw [Int.tmod_eq_emod_of_nonneg (by omega)]; omega
                          have HQ2 := hide hq2
                          by_cases htc0 : tc = 0
                          · subst htc0
                            obtain ⟨t, ht⟩ : ∃ t, P / 3 = t := ⟨_, rfl⟩
                            have hqv : 64 = t := by rw [HGE.out]; unfold qAt; rw [HPE.out, if_neg hq1, if_pos ⟨hq2, by rw [HTB.out]; rfl⟩, ht]
                            have e4 : (P : Int).tdiv 3 = t := by rw [Int.tdiv_eq_ediv_of_nonneg (by omega)]; omega
                            have e5 : (P : Int) / 3 = t := by omega
                            have e6 : IntKind.i64.wrap (t : Int) = t := IntWalk.i64_in _ (by omega)
                            have hgn : ((64 : Int) != (t : Int)) = false := by rw [bne_eq_false_iff_eq]; omega
                            clear hq1 hq2 hqv ht
                            go_wp2
                            have HTB2 : Hid (tornB l (k + 1) = !(1 == 0)) := hide (by
                              show (tornB l k || (pickAt l k % 3 == 2)) = _
                              rw [HTB.out, HPE.out]
                              have := HQ2.out; simp [this])
                            exact ⟨⟨k + 1, 1, by omega, by omega, by go_num, by go_num, HTB2, HM6⟩, by simp [intOf]; omega⟩
                          · have hqv : 64 = 0 := by rw [HGE.out]; unfold qAt; rw [HPE.out, if_neg hq1, if_neg (fun h => by rw [HTB.out] at h; simp [htc0] at h)]
                            have htc1 : ((tc : Int) + 1 == 1) = false := beq_eq_false_iff_ne.2 (by omega)
                            have htc2 : ((tc : Int) == 0) = false := beq_eq_false_iff_ne.2 (by omega)
                            have hgn : ((64 : Int) != 0) = false := by rw [bne_eq_false_iff_eq]; omega
                            have HTC := hide htc0
                            clear hq1 hq2 hqv htc0
                            go_wp2
                            have HTB2 : Hid (tornB l (k + 1) = !(tc + 1 == 0)) := hide (by
                              show (tornB l k || (pickAt l k % 3 == 2)) = _
                              rw [HTB.out, HPE.out]
                              have := HQ2.out; simp [this])
                            exact ⟨⟨k + 1, tc + 1, by omega, by omega, by go_num, by go_num, HTB2, HM6⟩, by simp [intOf]; omega⟩
                        · have e3 : (P : Int).tmod 3 = 0 := by rw [Int.tmod_eq_emod_of_nonneg (by omega)]; omega
                          have hqv : 64 = 0 := by rw [HGE.out]; unfold qAt; rw [HPE.out, if_neg hq1, if_neg (fun h => hq2 h.1)]
                          have hgn : ((64 : Int) != 0) = false := by rw [bne_eq_false_iff_eq]; omega
                          have HQ2 := hide hq2
                          clear hq1 hq2 hqv
                          go_wp2
                          have HTB2 : Hid (tornB l (k + 1) = !(tc == 0)) := hide (by
                            show (tornB l k || (pickAt l k % 3 == 2)) = _
                            rw [HTB.out, HPE.out]
                            have := HQ2.out; simp [this])
                          exact ⟨⟨k + 1, tc, by omega, by omega, by go_num, by go_num, HTB2, HM6⟩, by simp [intOf]; omega⟩
                    · have HPE : Hid (pickAt l k = 0) := hide (by unfold pickAt; rw [List.getD_eq_getElem?_getD, List.getElem?_eq_none (by rw [HL.out]; omega)]; rfl)
                      have hqv : 64 = 0 := by rw [HGE.out]; unfold qAt; rw [HPE.out]; rfl
                      have hgn : ((64 : Int) != 0) = false := by rw [bne_eq_false_iff_eq]; omega
                      clear hqv
                      go_wp2
                      have HTB2 : Hid (tornB l (k + 1) = !(tc == 0)) := hide (by
                        show (tornB l k || (pickAt l k % 3 == 2)) = _
                        rw [HTB.out, HPE.out]
                        simp)
                      exact ⟨⟨k + 1, tc, by omega, by omega, by go_num, by go_num, HTB2, HM6⟩, by simp [intOf]; omega⟩
            · skip
              obtain rfl : k = N := by omega
              go_wp2_with fail
              refine (awake_any _).mono ?_
              rintro e w9 ⟨rfl, hk9⟩
              have HM9 := hide (HMR.out.kept hk9)
              clear hk9
              go_wp2
              go_ret
              exact ⟨rfl, HM9.out.below⟩

theorem walk (a0 : Option Addr) (len0 cap0 : Nat) (z0 : List Int) (w : World) (w0 : IsRow .i64 w a0 len0 cap0 z0) :
    Calls Try.prog 5 #[.slice a0 len0 cap0] w fun e w' => e = .returned (.bool true) ∧ Below w.heap.size w w' := by
  obtain ⟨l, hl, _, hv, _⟩ := w0.ints
  by_cases h : len0 ≤ 40
  · exact walk_in _ rfl a0 len0 cap0 l w hv hl h
  · exact walk_out a0 len0 cap0 w (by omega)

/-! ### the row's step, as the guide's skeleton has it -/
set_option maxRecDepth 100000 in
theorem lifted (os : Os) (started : os.Started) (H : Type) (enc : TypeId × Value → H) :
    ReturnsInHanded {} Try.checked os 5 .any (Rows.diskPicksSpec.pre6 enc Try.prog Try.f5 Rows.diskPicksRow.domain false) (Rows.diskPicksSpec.post enc Try.prog Try.f5 false true false false) := by
  refine returnsInHanded_of_change (C := Try.checked) own started (by kernel_rfl) Try.func5
    (ChangeSpec.witness6 (enc := enc) (C := Try.checked) false ⟨#[], #[.slice none 0 0], []⟩ 8 (by kernel_rfl) (by kernel_rfl) (by kernel_rfl) (by kernel_rfl)) ?_
  intro W base args ds gs before hval0 hW hcnd _
  have hval : ∀ (j : Nat) t v, Try.f5.params[j]? = some t → args[j]? = some v → Value.okWide Try.prog W .any base t v := hval0
  have hW' := hW
  obtain ⟨p, q, hA0, hV, rfl, hfz, hnd⟩ := hW
  have hA : DataW.TrodAll enc Try.prog W 0 (fun _ => true) true Try.f5.params.toList args.toList ds p := hA0
  rw [Try.params5] at hA hval
  obtain ⟨v0, vs0, d0, ds0, p0, q0, hargs, rfl, rfl, h0, r0⟩ := trodAll_cons hA
  obtain ⟨rfl, rfl, rfl⟩ := trodAll_nil r0
  obtain rfl : args = #[v0] := by cases args; simp_all
  obtain ⟨rfl, rfl⟩ := trodVars_none hV
  obtain ⟨a0, len0, cap0, rfl⟩ := okWide_slice Try.underlying30 (hval 0 30 v0 rfl rfl)
  have k0 := h0
  have lt0 : ∀ x ∈ p0, x.block < W.heap.size := by obtain ⟨m, hm⟩ := k0; exact DataW.trod_lt m _ _ _ hm
  obtain ⟨z0, w0⟩ : ∃ zs, IsRow .i64 W a0 len0 cap0 zs := by
    obtain ⟨fuel, hf⟩ := h0
    rcases open_ints Try.underlying30 Try.underlying3 (by kernel_rfl) hf with ⟨hcs, _⟩ | ⟨x, l, c, zs, hcs, _, hl, hm, hz, _, hcell, hwz⟩
    · simp [Value.cells] at hcs
      obtain ⟨rfl, rfl, rfl⟩ := hcs
      exact ⟨[], .inl ⟨rfl, rfl, rfl, rfl⟩⟩
    · simp [Value.cells] at hcs
      obtain ⟨rfl, rfl, rfl⟩ := hcs
      exact ⟨zs, .inr ⟨_, rfl, hl, hm, by simpa using hz, hcell, hwz⟩⟩
  clear hA0 hval0
  refine (walk a0 len0 cap0 z0 W w0).mono fun e W' ⟨he, bel⟩ => ?_
  subst he
  exact ⟨_, rfl, _, _, _, [], _, [], hW', trodAll_mk1 (shut_bool Try.underlying4 _), (trodAll_cons_mk (Below.trod laidOut (by kernel_rfl) (of_decide_eq_true (by kernel_rfl)) k0 bel lt0) trodAll_mk0), rfl, bel.frame _, fun h => by cases h⟩

theorem over : Rows.diskPicksRow.holds Try.pinned (OpenSpec.ofChange Rows.diskPicksSpec) :=
  OpenClaim.holds_of_wide 5 Try.f5 rfl rfl rfl rfl rfl rfl rfl ⟨rfl, rfl, rfl, rfl, rfl⟩ rfl rfl rfl rfl rfl (by kernel_rfl) Try.func5 (by kernel_rfl)
    (of_decide_eq_true (by kernel_rfl)) (by unfold Func.isWrapper; first | (rw [if_pos (by decide +kernel)]; kernel_rfl) | (rw [if_neg (by decide +kernel)]; exact ⟨rfl, rfl⟩))
    (fun os started H enc _ => lifted os started H enc)

/-- The statement. -/
theorem proved : Rows.DiskPicksSaid := over
#print axioms proved
end Go.Proofs.Yteobkgajebbpaaa.diskPicks

