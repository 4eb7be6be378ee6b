/- The statement PagedPlays: its acts as they came in; outside of what it looks at. -/
import Derived.Test.YtfiddfanekblmaaPagedKit
import Derived.Test.YtfiddfanekblmaaAlike
import Derived.Deep.Slices
import Derived.Deep.Fields
import Derived.Deep.CutBlock
import Derived.ProofKit
import Derived.OpenShut
import Derived.ShutString
namespace Go.Proofs.Ytfiddfanekblmaa.pd
set_option linter.unusedSimpArgs false
open Go.ChangeShapes Go.WideShapes Go.ChangeAt Go.RowKit Go.Deep Go.Proofs.Ytfiddfanekblmaa.mem Go.Proofs.Ytfiddfanekblmaa.base Go.Proofs.Ytfiddfanekblmaa.owns

section
variable {H : Type} {enc : TypeId × Value → H} {P : Program} {w : World} {base : Nat} {spare : Nat → Bool} {held : Bool}
/-- A slice of structs of one-cell fields: each field's cell, and what it reads as. -/
theorem slice_fields {t e : TypeId} {fs : Array Field} {fuel : Nat} {A : Option Addr} {len cap : Nat} {x : DataW H × List MemPlace} (ht : P.underlying t = some (.slice e)) (he : P.underlying e = some (.struct fs))
    (hone : oneCellFields P fs = true) (hC : P.cellsOf e = fs.size) (h : DataW.trod enc P w base spare held fuel t [.slice A len cap] = some x) :
    ∀ i, i < len → ∃ (a : Addr) (n : Nat), A = some a ∧ ∀ (j : Nat) (f : Field), fs[j]? = some f → ∃ (v : Value) (y : DataW H × List MemPlace), w.cell? (a.add (i * fs.size + j)) = some v ∧ DataW.trod enc P w base spare held n f.type [v] = some y := by
  intro i hi
  rcases open_slice ht h with ⟨h0, _⟩ | ⟨a, len', cap', m, n, D, Pl, hcs, hb, hl, hm, hmm, hx, hel⟩
  · simp at h0
    omega
  · simp at hcs
    obtain ⟨rfl, rfl, rfl⟩ := hcs
    have him : i < m := by
      rw [hmm]
      split <;> omega
    obtain ⟨cs', hc, ht'⟩ := hel i him
    rw [hC] at hc
    obtain ⟨ys, n', hn', hy, hlen, hyl, hf⟩ := DataW.trod_struct he ht'
    obtain ⟨_, hcl, hat⟩ := World.cells?_some hc
    refine ⟨a, n', rfl, fun j f hj => ?_⟩
    obtain ⟨ho, hk⟩ := hone_of hone j f hj
    have hjl : j < fs.size := (Array.getElem?_eq_some_iff.1 hj).1
    have hcell := hat j hjl
    have hv : cs'[j]? = some (cs'[j]'(by omega)) := List.getElem?_eq_getElem (by omega)
    have h1 := hf j f hj
    rw [ho, hk] at h1
    have hone' : (cs'.drop j).take 1 = [cs'[j]'(by omega)] := by
      rw [List.drop_eq_getElem_cons (by omega)]
      rfl
    rw [hone'] at h1
    have hys : ys[j]? = some (ys[j]'(by omega)) := List.getElem?_eq_getElem (by omega)
    exact ⟨_, _, by rw [← Go.Deep.add_add, hcell, hv], h1.trans hys⟩
end

section
variable {H : Type} {enc : TypeId × Value → H} {w : World} {base : Nat} {held : Bool}
theorem ints_of {fuel : Nat} {v : Value} {x : DataW H × List MemPlace} (h : DataW.trod enc Try.prog w base (fun _ => true) held fuel 29 [v] = some x) :
    ∃ (A : Option Addr) (l : List Int) (c : Nat), v = .slice A l.length c ∧ Vals w [] A (l.map I) := by
  rcases open_ints Try.underlying29 Try.underlying3 (by kernel_rfl) h with ⟨hcs, _⟩ | ⟨a, len, cap, zs, hcs, _, hl, hm, hz, _, hcell, hwz⟩
  · simp at hcs
    exact ⟨none, [], 0, hcs, Vals.nil _ _ _⟩
  · simp at hcs hz
    refine ⟨some a, zs.take len, cap, by rw [hcs, List.length_take, Nat.min_eq_left (by omega)], fun i u hu => ⟨a, rfl, by simp, ?_⟩⟩
    have hi : i < len ∧ i < zs.length := by
      have := (List.getElem?_eq_some_iff.1 hu).1
      simp at this
      omega
    rw [hcell i hi.2]
    simp only [List.getElem?_map, List.getElem?_take_of_lt hi.1, List.getElem?_eq_getElem hi.2, Option.map_some] at hu
    rw [List.getD_eq_getElem?_getD, List.getElem?_eq_getElem hi.2]
    exact hu
end

theorem add_field (a : Addr) (n j : Nat) (h : 0 < j) : a.add (n + j) = ⟨(a.add n).block, (a.add n).off + j, none⟩ := by
  rw [add_pos a (n + j) (by omega)]
  by_cases hn : n = 0
  · subst hn
    simp [Addr.add]
  · rw [add_pos a n (by omega)]
    simp [Nat.add_assoc]

def ActAt (w : World) (q : Addr) : Prop :=
  ∃ (kind at_ v : Int) (LA : Option Addr) (l : List Int) (lc : Nat),
    w.cell? q = some (.int .i64 kind) ∧ w.cell? ⟨q.block, q.off + 1, none⟩ = some (.int .i64 at_) ∧ w.cell? ⟨q.block, q.off + 2, none⟩ = some (.int .i64 v) ∧
    w.cell? ⟨q.block, q.off + 3, none⟩ = some (.slice LA l.length lc) ∧ Vals w [] LA (l.map I)

theorem acts_of {H : Type} {enc : TypeId × Value → H} {w : World} {base : Nat} {held : Bool} {fuel : Nat} {L : Option Addr} {len cap : Nat} {x : DataW H × List MemPlace}
    (h : DataW.trod enc Try.prog w base (fun _ => true) held fuel 22 [.slice L len cap] = some x) : ∀ i, i < len → ∃ ad, L = some ad ∧ ActAt w (ad.add (i * 4)) := by
  intro i hi
  obtain ⟨a, n, rfl, hf⟩ := slice_fields Try.underlying22 Try.underlying32 (by kernel_rfl) (by kernel_rfl) h i hi
  obtain ⟨v0, y0, c0, t0⟩ := hf 0 _ rfl
  obtain ⟨v1, y1, c1, t1⟩ := hf 1 _ rfl
  obtain ⟨v2, y2, c2, t2⟩ := hf 2 _ rfl
  obtain ⟨v3, y3, c3, t3⟩ := hf 3 _ rfl
  obtain ⟨kind, e0, _, _⟩ := DataW.trod_int Try.underlying3 t0
  obtain ⟨at_, e1, _, _⟩ := DataW.trod_int Try.underlying3 t1
  obtain ⟨v, e2, _, _⟩ := DataW.trod_int Try.underlying3 t2
  obtain ⟨LA, l, lc, rfl, hvl⟩ := ints_of t3
  simp at e0 e1 e2
  subst e0 e1 e2
  refine ⟨a, rfl, kind, at_, v, LA, l, lc, c0, ?_, ?_, ?_, hvl⟩
  · rw [← add_field a _ 1 (by omega)]; exact c1
  · rw [← add_field a _ 2 (by omega)]; exact c2
  · rw [← add_field a _ 3 (by omega)]; exact c3

set_option maxRecDepth 100000 in
set_option maxHeartbeats 1000000 in
theorem plays_long (n per v : Int) (L : Option Addr) (len c : Nat) (w : World) (hl : 60 < len) :
    Calls Try.prog 3 #[.int .i64 n, .int .i64 per, .int .i64 v, .slice L len c] w fun e w' => e = .returned (.bool true) ∧ Below w.heap.size w w' := by
  have ha := awake_any w
  go_enter Try.func3, Try.ntmps3
  go_wp2_with (go_at_call 7; refine ha.mono ?_; rintro e w' ⟨rfl, hk⟩)
  go_ret
  exact ⟨rfl, hk.below (by simp)⟩

set_option maxRecDepth 100000 in
set_option maxHeartbeats 1000000 in
theorem plays_bad (n per v : Int) (L : Option Addr) (len c : Nat) (w : World) (hl : len ≤ 60) (h : ¬ ((1 ≤ n ∧ n ≤ 65536) ∧ (1 ≤ per ∧ per ≤ 65536))) :
    Calls Try.prog 3 #[.int .i64 n, .int .i64 per, .int .i64 v, .slice L len c] w fun e w' => e = .returned (.bool true) ∧ Below w.heap.size w w' := by
  have HB := hide h
  by_cases hn : 1 ≤ n ∧ n ≤ 65536
  · have hp : ¬ (1 ≤ per ∧ per ≤ 65536) := fun hp => h ⟨hn, hp⟩
    have HN := hide hn
    have HP := hide hp
    clear h hn hp
    go_enter Try.func3, Try.ntmps3
    go_wp2_with fail
    refine (new_int_no n per _ _ HB.out).mono ?_
    rintro e w1 ⟨rfl, rfl⟩
    go_wp2_with fail
    refine (within_yes n 1 65536 _ HN.out).mono ?_
    rintro e w1 ⟨rfl, rfl⟩
    go_wp2_with fail
    refine (within_no per 1 65536 _ HP.out).mono ?_
    rintro e w1 ⟨rfl, rfl⟩
    go_wp2_with fail
    refine (awake_any _).mono ?_
    rintro e w2 ⟨rfl, hk⟩
    have HK := hide hk
    clear hk
    go_wp2
    go_ret
    exact ⟨rfl, HK.out.below (by simp)⟩
  · have HN := hide hn
    clear h hn
    go_enter Try.func3, Try.ntmps3
    go_wp2_with fail
    refine (new_int_no n per _ _ HB.out).mono ?_
    rintro e w1 ⟨rfl, rfl⟩
    go_wp2_with fail
    refine (within_no n 1 65536 _ HN.out).mono ?_
    rintro e w1 ⟨rfl, rfl⟩
    go_wp2_with fail
    refine (awake_any _).mono ?_
    rintro e w2 ⟨rfl, hk⟩
    have HK := hide hk
    clear hk
    go_wp2
    go_ret
    exact ⟨rfl, HK.out.below (by simp)⟩

set_option maxRecDepth 100000 in
set_option maxHeartbeats 1000000 in
theorem plays_big (n per : Nat) (v : Int) (L : Option Addr) (len c : Nat) (w : World) (hl : len ≤ 60) (hn : 300 < n) (hn2 : n ≤ 65536) (hp1 : 1 ≤ per) (hp2 : per ≤ 65536) :
    Calls Try.prog 3 #[.int .i64 n, .int .i64 per, .int .i64 v, .slice L len c] w fun e w' => e = .returned (.bool true) ∧ Below w.heap.size w w' := by
  obtain ⟨m, hm⟩ : ∃ m, (n + per - 1) / per = m := ⟨_, rfl⟩
  have HM := hide hm
  clear hm
  go_enter Try.func3, Try.ntmps3
  go_wp2_with fail
  refine (new_int_at n per v _ n per m rfl rfl (by omega) hn2 hp1 hp2 HM.out.symm).mono ?_
  rintro e w1 ⟨p, V, D, rfl, _, _, _, hP, hk⟩
  have HP := hide hP
  have HK := hide hk
  have HL : Hid (Calls Try.prog 10 #[.pointer (some ⟨p, 0, none⟩)] w1 fun e w' => e = .returned (.int .i64 n) ∧ w1 = w') := hide (by have := len_int hP; rwa [List.length_map, List.length_replicate] at this)
  have HG : Hid (Calls Try.prog 11 #[.pointer (some ⟨p, 0, none⟩)] w1 fun e w' => e = .returned (.int .i64 m) ∧ w1 = w') := hide (by have := pages_int hP; rwa [List.length_replicate] at this)
  have HU : Hid (Calls Try.prog 12 #[.int .i64 n, .int .i64 per] w1 fun e w' => e = .returned (.int .i64 m) ∧ w1 = w') := hide (by have := up_any n per w1 (by omega) hn2 hp1 hp2; rwa [HM.out] at this)
  have hmm : ((m : Int) != (m : Int)) = false := by simp
  have hnn : ((n : Int) != (n : Int)) = false := by simp
  clear hP hk
  go_wp2_with fail
  refine (within_yes n 1 65536 _ (by omega)).mono ?_
  rintro e w2 ⟨rfl, rfl⟩
  go_wp2_with fail
  refine (within_yes per 1 65536 _ (by omega)).mono ?_
  rintro e w2 ⟨rfl, rfl⟩
  go_wp2_with fail
  refine HL.out.mono ?_
  rintro e w2 ⟨rfl, rfl⟩
  go_wp2_with fail
  refine HG.out.mono ?_
  rintro e w2 ⟨rfl, rfl⟩
  go_wp2_with fail
  refine HU.out.mono ?_
  rintro e w2 ⟨rfl, rfl⟩
  go_wp2_with fail
  refine (awake_any _).mono ?_
  rintro e w3 ⟨rfl, hk⟩
  have HK3 := hide (HK.out.trans hk (by simp))
  clear hk
  go_wp2
  go_ret
  exact ⟨rfl, HK3.out.below (by simp)⟩
end Go.Proofs.Ytfiddfanekblmaa.pd
