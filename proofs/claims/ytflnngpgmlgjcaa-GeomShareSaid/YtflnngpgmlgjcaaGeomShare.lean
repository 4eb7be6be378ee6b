/-
  The given statement GeomShareSaid is proved: whatever the arguments are, the law returns true and leaves its input as it was. No conditions.
-/
import Derived.Test.YtflnngpgmlgjcaaGeomMore
import Derived.Test.YtflnngpgmlgjcaaShapes
import Derived.Test.YtflnngpgmlgjcaaHeld
import Derived.WalkKit
import Derived.ProofKit
import Derived.OpenShut
import Derived.ShutString
import Derived.ChangeOld
import Derived.Below
namespace Go.Proofs.Ytflnngpgmlgjcaa.geomShare
open Go.ChangeShapes Go.WideShapes Go.ChangeAt Go.RowKit
open Go.ChangeMaps (open_string shut_string)
open Go.Proofs.Ytflnngpgmlgjcaa.mem Go.Proofs.Ytflnngpgmlgjcaa.base Go.Proofs.Ytflnngpgmlgjcaa.geom
set_option linter.unusedVariables false

theorem own : ownKnob Try.prog.godebug = none := by kernel_rfl
theorem laidOut : laidOutB Try.prog = true := by kernel_rfl

/-- What is left of the loop: so many segments hold more than half, or one holds less. -/
theorem share_step {i k half sum : Int} (less : Bool) (h : less = true ∨ i * (half + 1) ≤ sum) : (less || decide (k ≤ half)) = true ∨ (i + 1) * (half + 1) ≤ sum + k := by
  by_cases hk : k ≤ half
  · left
    rw [decide_eq_true hk, Bool.or_true]
  · rcases h with h | h
    · left
      rw [h]
      rfl
    · right
      rw [Int.add_mul]
      omega

set_option maxRecDepth 100000 in
set_option maxHeartbeats 4000000 in
theorem walk_in (a0_0 a0_1 a0_2 : Int) (A : Option Addr) (len cap : Nat) (xs : List Int) (w : World) (hv : Vals w [] A (xs.map I)) (hl : xs.length = len) :
    Calls Try.prog 6 #[.agg #[.int .i64 a0_0, .int .i64 a0_1, .int .i64 a0_2], .slice A len cap] w fun e w' => e = .returned (.bool true) ∧ Below w.heap.size w w' := by
  have HV := hide hv
  have HL := hide hl
  clear hv hl
  have hk := hide ((Kept.refl [] w).alloc (.cells #[.int .i64 a0_0, .int .i64 a0_1, .int .i64 a0_2] 41))
  go_enter Try.func6, Try.ntmps6
  go_wp2_with fail
  refine (config_any a0_0 a0_1 a0_2 _).mono ?_
  rintro e w1 ⟨b, s, l, rfl, ho, hk1⟩
  have hka := hide ((hk.out.trans hk1 (by simp)).alloc (.cells #[.int .i64 b, .int .i64 s, .int .i64 l] 23))
  have hb0 := Blk.new w1 23 #[.int .i64 b, .int .i64 s, .int .i64 l]
  have c0 : (w1.alloc (.cells #[.int .i64 b, .int .i64 s, .int .i64 l] 23)).cell? ⟨w1.heap.size, 0, none⟩ = some (.int .i64 b) := hb0.cell 0
  have c1 : (w1.alloc (.cells #[.int .i64 b, .int .i64 s, .int .i64 l] 23)).cell? ⟨w1.heap.size, 1, none⟩ = some (.int .i64 s) := hb0.cell 1
  have c2 : (w1.alloc (.cells #[.int .i64 b, .int .i64 s, .int .i64 l] 23)).cell? ⟨w1.heap.size, 2, none⟩ = some (.int .i64 l) := hb0.cell 2
  have HO := hide ho
  clear hb0 hk hk1
  go_wp2_with fail
  refine (new_yes b s l _ HO.out).mono ?_
  rintro e w2 ⟨p, r, q, rfl, hg, hp, hk2⟩
  have HG := hide hg
  have hb := hg.bounds
  obtain ⟨ho1, ho2, ho3⟩ := ho
  have HK := hide (hka.out.trans hk2 (by simp))
  have d0 := hk2.cell c0 (by simp)
  have d1 := hk2.cell c1 (by simp)
  have d2 := hk2.cell c2 (by simp)
  clear c0 c1 c2 hg hp hk2 hka
  generalize w1.heap.size = g at *
  have hS2 : Kept [] w2 w2 ∧ w2.cell? ⟨g, 0, none⟩ = some (.int .i64 b) ∧ w2.cell? ⟨g, 1, none⟩ = some (.int .i64 s) ∧ w2.cell? ⟨g, 2, none⟩ = some (.int .i64 l) := ⟨Kept.refl _ _, d0, d1, d2⟩
  have HS2 := hide hS2
  clear hS2
  have hhf : 2 * ((l - 2) / 2) ≤ l - 2 ∧ l - 3 ≤ 2 * ((l - 2) / 2) := by omega
  generalize hf0 : (l - 2) / 2 = hf at *
  have HF := hide hf0
  have hsh := share_le ho2 ho3
  rw [hf0] at hsh
  have HSH := hide hsh
  clear hf0 hsh
  by_cases hlen : (len : Int) < s - 2 - 1
  · go_wp2_with fail
    refine (awake_any _).mono ?_
    rintro e w3 ⟨rfl, hk⟩
    go_wp2
    go_ret
    exact ⟨rfl, (HK.out.trans hk (by simp)).below (by simp)⟩
  · clear d0 d2
    have hlen2 : s - 2 - 1 ≤ (len : Int) := by omega
    clear hlen
    go_wp2
    go_loopw [8, 9, 10] (fun sm le i wr => ∃ (k : Nat) (t : Int) (ls : Bool), (k : Int) ≤ s - 2 - 1 ∧ i = .int .i64 k ∧ sm = .int .i64 t ∧ le = .bool ls ∧ (0 ≤ t ∧ t ≤ 64 * k) ∧ Hid (ls = true ∨ (k : Int) * (hf + 1) ≤ t) ∧
      Hid (Kept [] w2 wr ∧ wr.cell? ⟨g, 0, none⟩ = some (.int .i64 b) ∧ wr.cell? ⟨g, 1, none⟩ = some (.int .i64 s) ∧ wr.cell? ⟨g, 2, none⟩ = some (.int .i64 l))) (fun sm le i wr => (s - 2 - 1).toNat - (intOf i).toNat)
    case atStart => exact ⟨0, 0, false, by omega, rfl, rfl, rfl, by omega, hide (.inr (by simp)), HS2⟩
    case round =>
      obtain ⟨k, t, ls, hk, rfl, rfl, rfl, ht, HI, HSR⟩ := hrel
      have c1 := HSR.out.2.2.1
      clear d1
      by_cases hlt : (k : Int) < s - 2 - 1
      · have hkl : k < xs.length := by rw [HL.out]; omega
        have hkn : k < len := by omega
        obtain ⟨ad, rfl, _, hc0⟩ := HV.out k (I xs[k]) (by rw [List.getElem?_map, List.getElem?_eq_getElem hkl]; rfl)
        unfold I at hc0
        generalize xs[k] = x at hc0
        have hc := (HK.out.trans HSR.out.1 (by simp)).cell hc0 (by simp)
        clear hc0
        have hy : 0 ≤ x % l ∧ x % l < l := ⟨Int.emod_nonneg _ (by omega), Int.emod_lt_of_pos x (by omega)⟩
        go_wp2
        go_region_held3 (fun W => Kept [] w2 W ∧ W.cell? ⟨g, 0, none⟩ = some (.int .i64 b) ∧ W.cell? ⟨g, 1, none⟩ = some (.int .i64 s) ∧ W.cell? ⟨g, 2, none⟩ = some (.int .i64 l) ∧ W.cell? (ad.add k) = some (.int .i64 x))
          (first | exact ⟨HSR.out.1.drew, HSR.out.2.1, HSR.out.2.2.1, HSR.out.2.2.2, hc⟩)
          (first
            | (go_at_call 33; refine (round_any x l _ (by omega) (by omega)).mono ?_; rintro e wn ⟨rfl, rfl⟩))
        generalize x % l = y at *
        have hst := hide (share_step (k := y) (half := hf) ls HI.out)
        have HGR := hide ((HG.out.kept HSR.out.1).drew)
        have HS3 : Hid (Kept [] w2 wr.drew ∧ wr.drew.cell? ⟨g, 0, none⟩ = some (.int .i64 b) ∧ wr.drew.cell? ⟨g, 1, none⟩ = some (.int .i64 s) ∧ wr.drew.cell? ⟨g, 2, none⟩ = some (.int .i64 l)) := hide ⟨HSR.out.1.drew, HSR.out.2⟩
        cases ls
        · go_wp2_with fail
          refine (half_at p b s l r q _ HGR.out).mono ?_
          rintro e wn ⟨rfl, rfl⟩
          rw [HF.out]
          go_wp2
          exact ⟨⟨k + 1, t + y, decide (y ≤ hf), by omega, by go_num, rfl, rfl, by omega, hide (by have := hst.out; simpa using this), HS3⟩, by simp [intOf]; omega⟩
        · go_wp2
          exact ⟨⟨k + 1, t + y, true, by omega, by go_num, rfl, rfl, by omega, hide (.inl rfl), HS3⟩, by simp [intOf]; omega⟩
      · obtain hke : (k : Int) = s - 2 - 1 := by omega
        have HKE := hide hke
        have hsh := HSH.out
        have hge : s - 2 - 1 ≤ (k : Int) := by omega
        have q1 : IntKind.i64.wrap (2 * hf) = 2 * hf := IntWalk.i64_in _ (by omega)
        have q2 : IntKind.i64.wrap (l - 2) = l - 2 := IntWalk.i64_in _ (by omega)
        have q3 : IntKind.i64.wrap (l - 3) = l - 3 := IntWalk.i64_in _ (by omega)
        have d3 : decide (2 * hf ≤ l - 2) = true := decide_eq_true hhf.1
        have d4 : decide (l - 3 ≤ 2 * hf) = true := decide_eq_true hhf.2
        clear hke hlt
        cases ls
        · have hI : (s - 3) * (hf + 1) - 1 < t := by
            rcases HI.out with h | h
            · cases h
            · have e : (k : Int) = s - 3 := by have := HKE.out; omega
              rw [e] at h
              omega
          have d5 : decide ((s - 3) * (hf + 1) - 1 < t) = true := decide_eq_true hI
          go_wp2
          go_region_held3 (fun W => Kept [] w2 W ∧ W.cell? ⟨g, 0, none⟩ = some (.int .i64 b) ∧ W.cell? ⟨g, 1, none⟩ = some (.int .i64 s) ∧ W.cell? ⟨g, 2, none⟩ = some (.int .i64 l))
            (first | exact ⟨HSR.out.1.drew, HSR.out.2⟩ | exact stood (by assumption) hk | assumption)
            (first
              | (go_at_call 27; have hS := ‹Kept [] w2 _ ∧ _›; refine (half_at p b s l r q _ (HG.out.kept hS.1)).mono ?_; rintro e wn ⟨rfl, rfl⟩; rw [HF.out])
              | (go_at_call 9; refine (awake_any _).mono ?_; rintro e wn ⟨rfl, hk⟩)
              | (go_at_call 29; have hS := ‹Kept [] w2 _ ∧ _›; refine (share_at p b s l r q _ (HG.out.kept hS.1)).mono ?_; rintro e wn ⟨rfl, rfl⟩; rw [HF.out]))
          have hS6 := ‹Kept [] w2 _ ∧ _›
          go_wp2
          go_ret
          exact ⟨rfl, (HK.out.trans hS6.1 (by simp)).below (by simp)⟩
        · go_wp2
          refine wp_region_noPanic ?_
          refine wp_region_held_drew (S := fun W => Kept [] w2 W ∧ W.cell? ⟨g, 0, none⟩ = some (.int .i64 b) ∧ W.cell? ⟨g, 1, none⟩ = some (.int .i64 s) ∧ W.cell? ⟨g, 2, none⟩ = some (.int .i64 l)) (by kernel_rfl) (by exact ⟨HSR.out.1.drew, HSR.out.2⟩) (fun hHeld => ?_)
          refine wpAnyH_take (i := 0) (oi := ⟨some 68, _, _, _, _, _⟩) (v := ?v1) rfl (by kernel_rfl) (by kernel_rfl) (by kernel_rfl) (fun _ _ _ h => h) (Or.inl ⟨by rfl, ?hy1⟩) (by assumption) ?rest1
          case hy1 => (intro W hSw; (try dsimp only at hSw); go_simp; try with_reducible rfl)
          try simp only [Act.put, List.setIfInBounds_toArray, List.set_cons_zero, List.set_cons_succ]
          refine wpAnyH_take (i := 1) (oi := ⟨some 69, _, _, _, _, _⟩) (v := ?v2) rfl (by kernel_rfl) (by kernel_rfl) (by kernel_rfl) (fun _ _ _ h => h) (Or.inl ⟨by rfl, ?hy2⟩) (by assumption) ?rest2
          case hy2 => (intro W hSw; (try dsimp only at hSw); go_simp; try with_reducible rfl)
          try simp only [Act.put, List.setIfInBounds_toArray, List.set_cons_zero, List.set_cons_succ]
          refine wpAnyH_take (i := 2) (oi := ⟨some 70, _, _, _, _, _⟩) (v := undef) rfl (by kernel_rfl) (by kernel_rfl) (by kernel_rfl) (fun _ _ _ h => h) (Or.inr ⟨by rfl, rfl⟩) (by assumption) ?_
          try simp only [Act.put, List.setIfInBounds_toArray, List.set_cons_zero, List.set_cons_succ]
          refine wpAnyH_take (i := 3) (oi := ⟨some 71, _, _, _, _, _⟩) (v := undef) rfl (by kernel_rfl) (by kernel_rfl) (by kernel_rfl) (fun _ _ _ h => h) (Or.inr ⟨by rfl, rfl⟩) (by assumption) ?_
          try simp only [Act.put, List.setIfInBounds_toArray, List.set_cons_zero, List.set_cons_succ]
          refine wpAnyH_take (i := 4) (oi := ⟨some 72, _, _, _, _, _⟩) (v := undef) rfl (by kernel_rfl) (by kernel_rfl) (by kernel_rfl) (fun _ _ _ h => h) (Or.inr ⟨by rfl, rfl⟩) (by assumption) ?_
          try simp only [Act.put, List.setIfInBounds_toArray, List.set_cons_zero, List.set_cons_succ]
          refine wpAnyH_take (i := 5) (oi := ⟨some 73, _, _, _, _, _⟩) (v := undef) rfl (by kernel_rfl) (by kernel_rfl) (by kernel_rfl) (fun _ _ _ h => h) (Or.inr ⟨by rfl, rfl⟩) (by assumption) ?_
          try simp only [Act.put, List.setIfInBounds_toArray, List.set_cons_zero, List.set_cons_succ]
          refine wpAnyH_take (i := 6) (oi := ⟨some 74, _, _, _, _, _⟩) (v := ?v3) rfl (by kernel_rfl) (by kernel_rfl) (by kernel_rfl) (fun _ _ _ h => h) (Or.inl ⟨by rfl, ?hy3⟩) (by assumption) ?rest3
          case hy3 => (intro W hSw; (try dsimp only at hSw); go_simp; try with_reducible rfl)
          try simp only [Act.put, List.setIfInBounds_toArray, List.set_cons_zero, List.set_cons_succ]
          refine wpAnyH_take (i := 7) (oi := ⟨some 75, _, _, _, _, _⟩) (v := ?v4) rfl (by kernel_rfl) (by kernel_rfl) (by kernel_rfl) (fun _ _ _ h => h) (Or.inl ⟨by rfl, ?hy4⟩) (by assumption) ?rest4
          case hy4 => (intro W hSw; (try dsimp only at hSw); go_simp; try with_reducible rfl)
          try simp only [Act.put, List.setIfInBounds_toArray, List.set_cons_zero, List.set_cons_succ]
          refine wpAnyH_take (i := 8) (oi := ⟨some 76, _, _, _, _, _⟩) (v := ?v5) rfl (by kernel_rfl) (by kernel_rfl) (by kernel_rfl) (fun _ _ _ h => h) (Or.inl ⟨by rfl, ?hy5⟩) (by assumption) ?rest5
          case hy5 => (intro W hSw; (try dsimp only at hSw); go_simp; try with_reducible rfl)
          try simp only [Act.put, List.setIfInBounds_toArray, List.set_cons_zero, List.set_cons_succ]
          refine wpAnyH_take (i := 11) (oi := ⟨some 79, _, _, _, _, _⟩) (v := ?v6) rfl (by kernel_rfl) (by kernel_rfl) (by kernel_rfl) (fun _ _ _ h => h) (Or.inl ⟨by rfl, ?hy6⟩) (by assumption) ?rest6
          case hy6 => (intro W hSw; (try dsimp only at hSw); go_simp; try with_reducible rfl)
          try simp only [Act.put, List.setIfInBounds_toArray, List.set_cons_zero, List.set_cons_succ]
          refine wpAnyH_take (i := 12) (oi := ⟨some 80, _, _, _, _, _⟩) (v := ?v7) rfl (by kernel_rfl) (by kernel_rfl) (by kernel_rfl) (fun _ _ _ h => h) (Or.inl ⟨by rfl, ?hy7⟩) (by assumption) ?rest7
          case hy7 => (intro W hSw; (try dsimp only at hSw); go_simp; try with_reducible rfl)
          try simp only [Act.put, List.setIfInBounds_toArray, List.set_cons_zero, List.set_cons_succ]
          refine wpAnyH_take (i := 13) (oi := ⟨some 81, _, _, _, _, _⟩) (v := ?v8) rfl (by kernel_rfl) (by kernel_rfl) (by kernel_rfl) (fun _ _ _ h => h) (Or.inl ⟨by rfl, ?hy8⟩) (by assumption) ?rest8
          case hy8 => (intro W hSw; (try dsimp only at hSw); go_simp; try with_reducible rfl)
          try simp only [Act.put, List.setIfInBounds_toArray, List.set_cons_zero, List.set_cons_succ]
          refine held_one (i := 9) (o := ⟨some 77, _, _, _, _, _⟩) rfl (by kernel_rfl) (by rfl) (fun K hK => ?_)
          go_simp
          have hS := hHeld
          refine (half_at p b s l r q _ (HG.out.kept hS.1)).mono ?_
          rintro e wn ⟨rfl, rfl⟩
          rw [HF.out]
          refine hK.out _ _ (by exact hHeld) (fun hHeld => ?_)
          clear hK K
          try simp only [Act.put, List.setIfInBounds_toArray, List.set_cons_zero, List.set_cons_succ]
          refine wpAnyH_take (i := 10) (oi := ⟨some 78, _, _, _, _, _⟩) (v := ?v9) rfl (by kernel_rfl) (by kernel_rfl) (by kernel_rfl) (fun _ _ _ h => h) (Or.inl ⟨by rfl, ?hy9⟩) (by assumption) ?rest9
          case hy9 => (intro W hSw; (try dsimp only at hSw); go_simp; try with_reducible rfl)
          try simp only [Act.put, List.setIfInBounds_toArray, List.set_cons_zero, List.set_cons_succ]
          refine wpAnyH_take (i := 14) (oi := ⟨some 82, _, _, _, _, _⟩) (v := ?v10) rfl (by kernel_rfl) (by kernel_rfl) (by kernel_rfl) (fun _ _ _ h => h) (Or.inl ⟨by rfl, ?hy10⟩) (by assumption) ?rest10
          case hy10 => (intro W hSw; (try dsimp only at hSw); go_simp; try with_reducible rfl)
          try simp only [Act.put, List.setIfInBounds_toArray, List.set_cons_zero, List.set_cons_succ]
          refine wpAnyH_take (i := 15) (oi := ⟨some 83, _, _, _, _, _⟩) (v := ?v11) rfl (by kernel_rfl) (by kernel_rfl) (by kernel_rfl) (fun _ _ _ h => h) (Or.inl ⟨by rfl, ?hy11⟩) (by assumption) ?rest11
          case hy11 => (intro W hSw; (try dsimp only at hSw); go_simp; try with_reducible rfl)
          try simp only [Act.put, List.setIfInBounds_toArray, List.set_cons_zero, List.set_cons_succ]
          refine wpAnyH_take (i := 16) (oi := ⟨some 84, _, _, _, _, _⟩) (v := ?v12) rfl (by kernel_rfl) (by kernel_rfl) (by kernel_rfl) (fun _ _ _ h => h) (Or.inl ⟨by rfl, ?hy12⟩) (by assumption) ?rest12
          case hy12 => (intro W hSw; (try dsimp only at hSw); go_simp; try with_reducible rfl)
          try simp only [Act.put, List.setIfInBounds_toArray, List.set_cons_zero, List.set_cons_succ]
          refine wpAnyH_take (i := 17) (oi := ⟨some 85, _, _, _, _, _⟩) (v := ?v13) rfl (by kernel_rfl) (by kernel_rfl) (by kernel_rfl) (fun _ _ _ h => h) (Or.inl ⟨by rfl, ?hy13⟩) (by assumption) ?rest13
          case hy13 => (intro W hSw; (try dsimp only at hSw); go_simp; try with_reducible rfl)
          try simp only [Act.put, List.setIfInBounds_toArray, List.set_cons_zero, List.set_cons_succ]
          refine wpAnyH_take (i := 20) (oi := ⟨some 88, _, _, _, _, _⟩) (v := ?v14) rfl (by kernel_rfl) (by kernel_rfl) (by kernel_rfl) (fun _ _ _ h => h) (Or.inl ⟨by rfl, ?hy14⟩) (by assumption) ?rest14
          case hy14 => (intro W hSw; (try dsimp only at hSw); go_simp; try with_reducible rfl)
          try simp only [Act.put, List.setIfInBounds_toArray, List.set_cons_zero, List.set_cons_succ]
          refine wpAnyH_take (i := 21) (oi := ⟨some 89, _, _, _, _, _⟩) (v := ?v15) rfl (by kernel_rfl) (by kernel_rfl) (by kernel_rfl) (fun _ _ _ h => h) (Or.inl ⟨by rfl, ?hy15⟩) (by assumption) ?rest15
          case hy15 => (intro W hSw; (try dsimp only at hSw); go_simp; try with_reducible rfl)
          try simp only [Act.put, List.setIfInBounds_toArray, List.set_cons_zero, List.set_cons_succ]
          refine wpAnyH_take (i := 22) (oi := ⟨some 90, _, _, _, _, _⟩) (v := ?v16) rfl (by kernel_rfl) (by kernel_rfl) (by kernel_rfl) (fun _ _ _ h => h) (Or.inl ⟨by rfl, ?hy16⟩) (by assumption) ?rest16
          case hy16 => (intro W hSw; (try dsimp only at hSw); go_simp; try with_reducible rfl)
          try simp only [Act.put, List.setIfInBounds_toArray, List.set_cons_zero, List.set_cons_succ]
          refine held_one (i := 18) (o := ⟨some 86, _, _, _, _, _⟩) rfl (by kernel_rfl) (by rfl) (fun K hK => ?_)
          go_simp
          have hS := hHeld
          refine (half_at p b s l r q _ (HG.out.kept hS.1)).mono ?_
          rintro e wn ⟨rfl, rfl⟩
          rw [HF.out]
          refine hK.out _ _ (by exact hHeld) (fun hHeld => ?_)
          clear hK K
          try simp only [Act.put, List.setIfInBounds_toArray, List.set_cons_zero, List.set_cons_succ]
          refine wpAnyH_take (i := 19) (oi := ⟨some 87, _, _, _, _, _⟩) (v := ?v17) rfl (by kernel_rfl) (by kernel_rfl) (by kernel_rfl) (fun _ _ _ h => h) (Or.inl ⟨by rfl, ?hy17⟩) (by assumption) ?rest17
          case hy17 => (intro W hSw; (try dsimp only at hSw); go_simp; try with_reducible rfl)
          try simp only [Act.put, List.setIfInBounds_toArray, List.set_cons_zero, List.set_cons_succ]
          refine wpAnyH_take (i := 23) (oi := ⟨some 91, _, _, _, _, _⟩) (v := ?v18) rfl (by kernel_rfl) (by kernel_rfl) (by kernel_rfl) (fun _ _ _ h => h) (Or.inl ⟨by rfl, ?hy18⟩) (by assumption) ?rest18
          case hy18 => (intro W hSw; (try dsimp only at hSw); go_simp; try with_reducible rfl)
          try simp only [Act.put, List.setIfInBounds_toArray, List.set_cons_zero, List.set_cons_succ]
          refine wpAnyH_take (i := 24) (oi := ⟨some 92, _, _, _, _, _⟩) (v := ?v19) rfl (by kernel_rfl) (by kernel_rfl) (by kernel_rfl) (fun _ _ _ h => h) (Or.inl ⟨by rfl, ?hy19⟩) (by assumption) ?rest19
          case hy19 => (intro W hSw; (try dsimp only at hSw); go_simp; try with_reducible rfl)
          try simp only [Act.put, List.setIfInBounds_toArray, List.set_cons_zero, List.set_cons_succ]
          refine wpAnyH_take (i := 25) (oi := ⟨some 93, _, _, _, _, _⟩) (v := ?v20) rfl (by kernel_rfl) (by kernel_rfl) (by kernel_rfl) (fun _ _ _ h => h) (Or.inl ⟨by rfl, ?hy20⟩) (by assumption) ?rest20
          case hy20 => (intro W hSw; (try dsimp only at hSw); go_simp; try with_reducible rfl)
          try simp only [Act.put, List.setIfInBounds_toArray, List.set_cons_zero, List.set_cons_succ]
          refine held_one (i := 26) (o := ⟨some 94, _, _, _, _, _⟩) rfl (by kernel_rfl) (by rfl) (fun K hK => ?_)
          go_simp
          refine (awake_any _).mono ?_
          rintro e wn ⟨rfl, hk⟩
          refine hK.out _ _ (by exact stood hHeld hk) (fun hHeld => ?_)
          clear hK K
          try simp only [Act.put, List.setIfInBounds_toArray, List.set_cons_zero, List.set_cons_succ]
          refine wpAnyH_take (i := 27) (oi := ⟨some 95, _, _, _, _, _⟩) (v := ?v21) rfl (by kernel_rfl) (by kernel_rfl) (by kernel_rfl) (fun _ _ _ h => h) (Or.inl ⟨by rfl, ?hy21⟩) (by assumption) ?rest21
          case hy21 => (intro W hSw; (try dsimp only at hSw); go_simp; try with_reducible rfl)
          try simp only [Act.put, List.setIfInBounds_toArray, List.set_cons_zero, List.set_cons_succ]
          refine wpAnyH_take (i := 28) (oi := ⟨some 4, _, _, _, _, _⟩) (v := ?v22) rfl (by kernel_rfl) (by kernel_rfl) (by kernel_rfl) (fun _ _ _ h => h) (Or.inl ⟨by rfl, ?hy22⟩) (by assumption) ?rest22
          case hy22 => (intro W hSw; (try dsimp only at hSw); go_simp; try with_reducible rfl)
          try simp only [Act.put, List.setIfInBounds_toArray, List.set_cons_zero, List.set_cons_succ]
          refine wpAnyH_done (by kernel_rfl) ?_ _
          refine NoPanic.normal ?_
          go_wp2
          go_ret
          exact ⟨rfl, (HK.out.trans hHeld.1 (by simp)).below (by simp)⟩

theorem walk (a0_0 a0_1 a0_2 : Int) (a1 : Option Addr) (len1 cap1 : Nat) (z1 : List Int) (w : World) (w0_0 : (Lit.int .i64 a0_0).wf = true) (w0_1 : (Lit.int .i64 a0_1).wf = true) (w0_2 : (Lit.int .i64 a0_2).wf = true) (w1 : IsRow .i64 w a1 len1 cap1 z1) :
    Calls Try.prog 6 #[.agg #[.int .i64 a0_0, .int .i64 a0_1, .int .i64 a0_2], .slice a1 len1 cap1] w fun e w' => e = .returned (.bool true) ∧ Below w.heap.size w w' := by
  obtain ⟨xs, hl, _, hv, _⟩ := w1.ints
  exact walk_in a0_0 a0_1 a0_2 a1 len1 cap1 xs w hv hl

/-! ### the row's step, as the guide's skeleton has it -/
set_option maxRecDepth 100000 in
theorem lifted (os : Os) (started : os.Started) (H : Type) (enc : TypeId × Value → H) :
    ReturnsInHanded {} Try.checked os 6 .any (Rows.geomShareSpec.pre6 enc Try.prog Try.f6 Rows.geomShareRow.domain false) (Rows.geomShareSpec.post enc Try.prog Try.f6 false true false false) := by
  refine returnsInHanded_of_change (C := Try.checked) own started (by kernel_rfl) Try.func6
    (ChangeSpec.witness6 (enc := enc) (C := Try.checked) false ⟨#[], #[.agg #[.int .i64 0, .int .i64 0, .int .i64 0], .slice none 0 0], []⟩ 8 (by kernel_rfl) (by kernel_rfl) (by kernel_rfl) (by kernel_rfl)) ?_
  intro W base args ds gs before hval0 hW hcnd _
  have hval : ∀ (j : Nat) t v, Try.f6.params[j]? = some t → args[j]? = some v → Value.okWide Try.prog W .any base t v := hval0
  have hW' := hW
  obtain ⟨p, q, hA0, hV, rfl, hfz, hnd⟩ := hW
  have hA : DataW.TrodAll enc Try.prog W 0 (fun _ => true) true Try.f6.params.toList args.toList ds p := hA0
  rw [Try.params6] at hA hval
  obtain ⟨v0, vs0, d0, ds0, p0, q0, hargs, rfl, rfl, h0, r0⟩ := trodAll_cons hA
  obtain ⟨v1, vs1, d1, ds1, p1, q1, rfl, rfl, rfl, h1, r1⟩ := trodAll_cons r0
  obtain ⟨rfl, rfl, rfl⟩ := trodAll_nil r1
  obtain rfl : args = #[v0, v1] := by cases args; simp_all
  obtain ⟨rfl, rfl⟩ := trodVars_none hV
  have k0 := h0
  have lt0 : ∀ x ∈ p0, x.block < W.heap.size := by obtain ⟨m, hm⟩ := k0; exact DataW.trod_lt m _ _ _ hm
  obtain ⟨xs0, rfl, hl0, hx0⟩ := agg_ints (ts := List.replicate 3 3) (n := 3) (by kernel_rfl) (by kernel_rfl) (fun u hu => by rw [List.eq_of_mem_replicate hu]; exact Try.underlying3) (by kernel_rfl) (hval 0 41 v0 rfl rfl)
  obtain ⟨a0_0, a0_1, a0_2, rfl⟩ := list3 hl0
  have w0_0 := hx0 a0_0 (by simp)
  have w0_1 := hx0 a0_1 (by simp)
  have w0_2 := hx0 a0_2 (by simp)
  obtain ⟨a1, len1, cap1, rfl⟩ := okWide_slice Try.underlying43 (hval 1 43 v1 rfl rfl)
  have k1 := h1
  have lt1 : ∀ x ∈ p1, x.block < W.heap.size := by obtain ⟨m, hm⟩ := k1; exact DataW.trod_lt m _ _ _ hm
  obtain ⟨z1, w1⟩ : ∃ zs, IsRow .i64 W a1 len1 cap1 zs := by
    obtain ⟨fuel, hf⟩ := h1
    rcases open_ints Try.underlying43 Try.underlying3 (by kernel_rfl) hf with ⟨hcs, _⟩ | ⟨x, l, c, zs, hcs, _, hl, hm, hz, _, hcell, hwz⟩
    · simp [Value.cells] at hcs
      obtain ⟨rfl, rfl, rfl⟩ := hcs
      exact ⟨[], .inl ⟨rfl, rfl, rfl, rfl⟩⟩
    · simp [Value.cells] at hcs
      obtain ⟨rfl, rfl, rfl⟩ := hcs
      exact ⟨zs, .inr ⟨_, rfl, hl, hm, by simpa using hz, hcell, hwz⟩⟩
  clear hA0 hval0
  refine (walk a0_0 a0_1 a0_2 a1 len1 cap1 z1 W w0_0 w0_1 w0_2 w1).mono fun e W' ⟨he, bel⟩ => ?_
  subst he
  exact ⟨_, rfl, _, _, _, [], _, [], hW', trodAll_mk1 (shut_bool Try.underlying4 _), (trodAll_cons_mk (Below.trod laidOut (by kernel_rfl) (of_decide_eq_true (by kernel_rfl)) k0 bel lt0) (trodAll_cons_mk (Below.trod laidOut (by kernel_rfl) (of_decide_eq_true (by kernel_rfl)) k1 bel lt1) trodAll_mk0)), rfl, bel.frame _, fun h => by cases h⟩

theorem over : Rows.geomShareRow.holds Try.pinned (OpenSpec.ofChange Rows.geomShareSpec) :=
  OpenClaim.holds_of_wide 6 Try.f6 rfl rfl rfl rfl rfl rfl rfl ⟨rfl, rfl, rfl, rfl, rfl⟩ rfl rfl rfl rfl rfl (by kernel_rfl) Try.func6 (by kernel_rfl)
    (of_decide_eq_true (by kernel_rfl)) (by unfold Func.isWrapper; first | (rw [if_pos (by decide +kernel)]; kernel_rfl) | (rw [if_neg (by decide +kernel)]; exact ⟨rfl, rfl⟩))
    (fun os started H enc _ => lifted os started H enc)

/-- The statement. -/
theorem proved : Rows.GeomShareSaid := over
#print axioms proved
end Go.Proofs.Ytflnngpgmlgjcaa.geomShare

