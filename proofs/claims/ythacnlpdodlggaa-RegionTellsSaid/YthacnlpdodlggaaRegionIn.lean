/- A region that came in. -/
import Derived.Test.YthacnlpdodlggaaRegionMem
import Derived.Test.YthacnlpdodlggaaSlabs
import Derived.Test.YthacnlpdodlggaaShapes
namespace Go.Proofs.Ythacnlpdodlggaa.rg
open Go.ChangeShapes Go.WideShapes Go.ChangeAt Go.RowKit Go.Deep Go.Proofs.Ythacnlpdodlggaa.mem Go.Proofs.Ythacnlpdodlggaa.base
set_option linter.unusedSimpArgs false

theorem uses_of {w : World} {A : Option Addr} {l : List (List Int)} (h : Slab w 2 A l) : ∃ us : List Us, us.length = l.length ∧ Uses w [] A us := by
  refine ⟨l.map (fun xs => ⟨xs.getD 0 0, xs.getD 1 0⟩), by simp, Uses.of fun k i hi => ?_⟩
  rw [List.getElem?_map] at hi
  obtain ⟨xs, hx, rfl⟩ := Option.map_eq_some_iff.1 hi
  obtain ⟨h4, a, rfl, hc⟩ := h k xs hx
  obtain ⟨x0, x1, rfl⟩ := list2 h4
  refine ⟨a, rfl, by simp, hc 0 x0 rfl, ?_⟩
  rw [← add_field a _ 1 (by omega)]
  exact hc 1 x1 rfl

section
variable {H : Type} {enc : TypeId × Value → H} {w : World} {base : Nat} {held : Bool}
theorem ints_of {fuel : Nat} {v : Value} {x : DataW H × List MemPlace} (h : DataW.trod enc Try.prog w base (fun _ => true) held fuel 25 [v] = some x) :
    ∃ (L : Option Addr) (n c : Nat) (l : List Int), v = .slice L n c ∧ l.length = n ∧ Vals w [] L (l.map I) := by
  rcases open_ints Try.underlying25 Try.underlying3 (by kernel_rfl) h with ⟨hcs, _⟩ | ⟨a, l, c, zs, hcs, _, hl, hm, hz, _, hcell, hwz⟩
  · simp at hcs
    exact ⟨none, 0, 0, [], hcs, rfl, Vals.nil _ _ _⟩
  · simp at hcs
    have hr : IsRow .i64 w (some a) l c zs := .inr ⟨_, rfl, hl, hm, by simpa using hz, hcell, hwz⟩
    obtain ⟨xs, h1, _, h2, _⟩ := hr.ints
    exact ⟨some a, l, c, xs, hcs, h1, h2⟩
theorem useS_of {fuel : Nat} {v : Value} {x : DataW H × List MemPlace} (h : DataW.trod enc Try.prog w base (fun _ => true) held fuel 26 [v] = some x) :
    ∃ (L : Option Addr) (n c : Nat) (us : List Us), v = .slice L n c ∧ us.length = n ∧ Uses w [] L us := by
  have hv : ∃ (L : Option Addr) (n c : Nat), v = .slice L n c := by
    rcases open_slice Try.underlying26 h with ⟨h0, _⟩ | ⟨a, len, cap, m, n, D, Pl, hcs, _⟩
    · simp at h0
      exact ⟨_, _, _, h0⟩
    · simp at hcs
      exact ⟨_, _, _, hcs⟩
  obtain ⟨L, n, c, rfl⟩ := hv
  obtain ⟨l, e0, w0, _⟩ := slab_of (n := 2) Try.underlying26 (by kernel_rfl) (fun _ cs x hl h => struct_cells Try.underlying3 Try.underlying79 (by kernel_rfl) (by simp) (by kernel_rfl) _ cs x hl h) h
  obtain ⟨us, hl, hi⟩ := uses_of w0
  exact ⟨L, n, c, us, rfl, hl.trans e0, hi⟩

set_option maxRecDepth 1000000 in
set_option maxHeartbeats 4000000 in
/-- A region's fourteen cells. -/
theorem region_of {fuel : Nat} {cs : List Value} {x : DataW H × List MemPlace} (h : DataW.trod enc Try.prog w base (fun _ => true) held fuel 28 cs = some x) :
    ∃ (R : Rg) (X : Sl), cs = (R.cells X).toList ∧ RgIn w [] X R := by
  have k1 : Try.prog.cellsOf 3 = 1 := by kernel_rfl
  have k5 : Try.prog.cellsOf 24 = 5 := by kernel_rfl
  have kS : Try.prog.cellsOf 25 = 1 := by kernel_rfl
  have kU : Try.prog.cellsOf 26 = 1 := by kernel_rfl
  have kR : Try.prog.cellsOf 28 = 14 := by kernel_rfl
  obtain ⟨ys, n', hn', hy, hlen, hyl, hf⟩ := DataW.trod_struct Try.underlying28 h
  rw [kR] at hlen
  have hyl' : ys.length = 10 := by simpa using hyl
  have g : ∀ (j : Nat) (hj : j < 10), ys[j]? = some (ys[j]'(by omega)) := fun j hj => List.getElem?_eq_getElem (by omega)
  match cs, hlen, hf with
  | [u0, u1, u2, u3, u4, u5, u6, u7, u8, u9, u10, u11, u12, u13], _, hf =>
    have t0 : DataW.trod enc Try.prog w base (fun _ => true) held n' 3 [u0] = some (ys[0]'(by omega)) := by
      have q := (hf 0 _ rfl).trans (g 0 (by omega))
      have q' : DataW.trod enc Try.prog w base (fun _ => true) held n' 3 ((([u0, u1, u2, u3, u4, u5, u6, u7, u8, u9, u10, u11, u12, u13] : List Value).drop 0).take (Try.prog.cellsOf 3)) = some (ys[0]'(by omega)) := q
      rw [k1] at q'
      exact q'
    have t1 : DataW.trod enc Try.prog w base (fun _ => true) held n' 3 [u1] = some (ys[1]'(by omega)) := by
      have q := (hf 1 _ rfl).trans (g 1 (by omega))
      have q' : DataW.trod enc Try.prog w base (fun _ => true) held n' 3 ((([u0, u1, u2, u3, u4, u5, u6, u7, u8, u9, u10, u11, u12, u13] : List Value).drop 1).take (Try.prog.cellsOf 3)) = some (ys[1]'(by omega)) := q
      rw [k1] at q'
      exact q'
    have t2 : DataW.trod enc Try.prog w base (fun _ => true) held n' 3 [u2] = some (ys[2]'(by omega)) := by
      have q := (hf 2 _ rfl).trans (g 2 (by omega))
      have q' : DataW.trod enc Try.prog w base (fun _ => true) held n' 3 ((([u0, u1, u2, u3, u4, u5, u6, u7, u8, u9, u10, u11, u12, u13] : List Value).drop 2).take (Try.prog.cellsOf 3)) = some (ys[2]'(by omega)) := q
      rw [k1] at q'
      exact q'
    have t3 : DataW.trod enc Try.prog w base (fun _ => true) held n' 3 [u3] = some (ys[3]'(by omega)) := by
      have q := (hf 3 _ rfl).trans (g 3 (by omega))
      have q' : DataW.trod enc Try.prog w base (fun _ => true) held n' 3 ((([u0, u1, u2, u3, u4, u5, u6, u7, u8, u9, u10, u11, u12, u13] : List Value).drop 3).take (Try.prog.cellsOf 3)) = some (ys[3]'(by omega)) := q
      rw [k1] at q'
      exact q'
    have t4 : DataW.trod enc Try.prog w base (fun _ => true) held n' 3 [u4] = some (ys[4]'(by omega)) := by
      have q := (hf 4 _ rfl).trans (g 4 (by omega))
      have q' : DataW.trod enc Try.prog w base (fun _ => true) held n' 3 ((([u0, u1, u2, u3, u4, u5, u6, u7, u8, u9, u10, u11, u12, u13] : List Value).drop 4).take (Try.prog.cellsOf 3)) = some (ys[4]'(by omega)) := q
      rw [k1] at q'
      exact q'
    have t5 : DataW.trod enc Try.prog w base (fun _ => true) held n' 3 [u5] = some (ys[5]'(by omega)) := by
      have q := (hf 5 _ rfl).trans (g 5 (by omega))
      have q' : DataW.trod enc Try.prog w base (fun _ => true) held n' 3 ((([u0, u1, u2, u3, u4, u5, u6, u7, u8, u9, u10, u11, u12, u13] : List Value).drop 5).take (Try.prog.cellsOf 3)) = some (ys[5]'(by omega)) := q
      rw [k1] at q'
      exact q'
    have t6 : DataW.trod enc Try.prog w base (fun _ => true) held n' 24 [u6, u7, u8, u9, u10] = some (ys[6]'(by omega)) := by
      have q := (hf 6 _ rfl).trans (g 6 (by omega))
      have q' : DataW.trod enc Try.prog w base (fun _ => true) held n' 24 ((([u0, u1, u2, u3, u4, u5, u6, u7, u8, u9, u10, u11, u12, u13] : List Value).drop 6).take (Try.prog.cellsOf 24)) = some (ys[6]'(by omega)) := q
      rw [k5] at q'
      exact q'
    have t7 : DataW.trod enc Try.prog w base (fun _ => true) held n' 25 [u11] = some (ys[7]'(by omega)) := by
      have q := (hf 7 _ rfl).trans (g 7 (by omega))
      have q' : DataW.trod enc Try.prog w base (fun _ => true) held n' 25 ((([u0, u1, u2, u3, u4, u5, u6, u7, u8, u9, u10, u11, u12, u13] : List Value).drop 11).take (Try.prog.cellsOf 25)) = some (ys[7]'(by omega)) := q
      rw [kS] at q'
      exact q'
    have t8 : DataW.trod enc Try.prog w base (fun _ => true) held n' 25 [u12] = some (ys[8]'(by omega)) := by
      have q := (hf 8 _ rfl).trans (g 8 (by omega))
      have q' : DataW.trod enc Try.prog w base (fun _ => true) held n' 25 ((([u0, u1, u2, u3, u4, u5, u6, u7, u8, u9, u10, u11, u12, u13] : List Value).drop 12).take (Try.prog.cellsOf 25)) = some (ys[8]'(by omega)) := q
      rw [kS] at q'
      exact q'
    have t9 : DataW.trod enc Try.prog w base (fun _ => true) held n' 26 [u13] = some (ys[9]'(by omega)) := by
      have q := (hf 9 _ rfl).trans (g 9 (by omega))
      have q' : DataW.trod enc Try.prog w base (fun _ => true) held n' 26 ((([u0, u1, u2, u3, u4, u5, u6, u7, u8, u9, u10, u11, u12, u13] : List Value).drop 13).take (Try.prog.cellsOf 26)) = some (ys[9]'(by omega)) := q
      rw [kU] at q'
      exact q'
    obtain ⟨m0, e0, _, _⟩ := DataW.trod_int Try.underlying3 t0
    obtain ⟨m1, e1, _, _⟩ := DataW.trod_int Try.underlying3 t1
    obtain ⟨m2, e2, _, _⟩ := DataW.trod_int Try.underlying3 t2
    obtain ⟨m3, e3, _, _⟩ := DataW.trod_int Try.underlying3 t3
    obtain ⟨m4, e4, _, _⟩ := DataW.trod_int Try.underlying3 t4
    obtain ⟨m5, e5, _, _⟩ := DataW.trod_int Try.underlying3 t5
    have hp := struct_cells Try.underlying3 Try.underlying24 (by kernel_rfl) (by simp) (by kernel_rfl) _ _ _ (by rw [k5]; rfl) t6
    obtain ⟨p0, q0⟩ := hp 0 _ rfl
    obtain ⟨p1, q1⟩ := hp 1 _ rfl
    obtain ⟨p2, q2⟩ := hp 2 _ rfl
    obtain ⟨p3, q3⟩ := hp 3 _ rfl
    obtain ⟨p4, q4⟩ := hp 4 _ rfl
    obtain ⟨A, na, ca, bs, e7, hb1, hb2⟩ := ints_of t7
    obtain ⟨O, no, co, ov, e8, ho1, ho2⟩ := ints_of t8
    obtain ⟨U, nu, cu, us, e9, hu1, hu2⟩ := useS_of t9
    simp at e0 e1 e2 e3 e4 e5
    subst e0 e1 e2 e3 e4 e5 q0 q1 q2 q3 q4 e7 e8 e9
    exact ⟨⟨m0, m1, m2, m3, m4, m5, p0, p1, p2, p3, p4, bs, ov, us⟩, ⟨A, O, U, na, ca, no, co, nu, cu⟩, rfl, ⟨hb1, ho1, hu1, hb2, ho2, hu2⟩⟩
end
end Go.Proofs.Ythacnlpdodlggaa.rg
