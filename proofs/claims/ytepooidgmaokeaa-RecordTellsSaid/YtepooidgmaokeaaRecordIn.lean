/- A record that came in. -/
import Derived.Test.YtepooidgmaokeaaRecordMem
import Derived.Test.YtepooidgmaokeaaSlabs
import Derived.Test.YtepooidgmaokeaaShapes
import Derived.Deep.Matrix
namespace Go.Proofs.Ytepooidgmaokeaa.record
open Go.ChangeShapes Go.WideShapes Go.ChangeAt Go.RowKit Go.Deep Go.Proofs.Ytepooidgmaokeaa.mem Go.Proofs.Ytepooidgmaokeaa.base Go.Proofs.Ytepooidgmaokeaa.crc Go.Proofs.Ytepooidgmaokeaa.item

/-- A slice that reads rows of bytes, however long they are. -/
def PartsAny (w : World) (A : Option Addr) (bss : List (List UInt8)) : Prop :=
  ∃ vs : List Value, vs.length = bss.length ∧ Vals w [] A vs ∧ ∀ (i : Nat) (bs : List UInt8), bss[i]? = some bs → ∃ Ai ci, vs[i]? = some (.slice Ai bs.length ci) ∧ Vals w [] Ai (bs.map B)
theorem PartsAny.parts {w : World} {A : Option Addr} {bss : List (List UInt8)} (h : PartsAny w A bss) (hl : ∀ b ∈ bss, b.length ≤ 140737488355328) : Parts w A bss := by
  obtain ⟨vs, h1, h2, h3⟩ := h
  exact ⟨vs, h1, h2, fun i bs hb => by
    obtain ⟨Ai, ci, h4, h5⟩ := h3 i bs hb
    exact ⟨Ai, ci, h4, hl bs (List.mem_of_getElem? hb), h5⟩⟩
theorem PartsAny.kept {w w' : World} {A : Option Addr} {bss : List (List UInt8)} (h : PartsAny w A bss) (k : Kept [] w w') : PartsAny w' A bss := by
  obtain ⟨vs, h1, h2, h3⟩ := h
  exact ⟨vs, h1, h2.kept k (by simp), fun i bs hb => by
    obtain ⟨Ai, ci, h4, h5⟩ := h3 i bs hb
    exact ⟨Ai, ci, h4, h5.kept k (by simp)⟩⟩
theorem PartsAny.at_ {w : World} {A : Option Addr} {bss : List (List UInt8)} (h : PartsAny w A bss) (i : Nat) (bs : List UInt8) (hb : bss[i]? = some bs) : ∃ ad Ai ci, A = some ad ∧ w.cell? (ad.add i) = some (.slice Ai bs.length ci) ∧ Vals w [] Ai (bs.map B) := by
  obtain ⟨vs, h1, h2, h3⟩ := h
  obtain ⟨Ai, ci, h4, h6⟩ := h3 i bs hb
  obtain ⟨ad, h7, _, h8⟩ := h2 i _ h4
  exact ⟨ad, Ai, ci, h7, h8, h6⟩
theorem items_of {w : World} {A : Option Addr} {l : List (List Int)} (h : Slab w 4 A l) : ∃ its : List It, its.length = l.length ∧ Items w [] A its := by
  refine ⟨l.map (fun xs => ⟨xs.getD 0 0, xs.getD 1 0, xs.getD 2 0, xs.getD 3 0⟩), by simp, Items.of fun k i hi => ?_⟩
  rw [List.getElem?_map] at hi
  obtain ⟨xs, hx, rfl⟩ := Option.map_eq_some_iff.1 hi
  obtain ⟨h4, a, rfl, hc⟩ := h k xs hx
  obtain ⟨x0, x1, x2, x3, rfl⟩ := list4 h4
  refine ⟨a, rfl, by simp, hc 0 x0 rfl, ?_, ?_, ?_⟩
  · rw [← item.add_field a _ 1 (by omega)]; exact hc 1 x1 rfl
  · rw [← item.add_field a _ 2 (by omega)]; exact hc 2 x2 rfl
  · rw [← item.add_field a _ 3 (by omega)]; exact hc 3 x3 rfl

section
variable {H : Type} {enc : TypeId × Value → H} {w : World} {base : Nat} {held : Bool}
theorem blocks_of {fuel : Nat} {v : Value} {x : DataW H × List MemPlace} (h : DataW.trod enc Try.prog w base (fun _ => true) held fuel 23 [v] = some x) :
    ∃ (L : Option Addr) (m d : Nat) (bss : List (List UInt8)), v = .slice L m d ∧ bss.length = m ∧ PartsAny w L bss := by
  rcases Go.Deep.open_int_rows Try.underlying23 Try.underlying28 Try.underlying5 (by kernel_rfl) (by kernel_rfl) h with ⟨hcs, _⟩ | ⟨a, len, cap, A, Ln, C, Z, hcs, _, hl, hm, hx, hrow⟩
  · simp at hcs
    exact ⟨none, 0, 0, [], hcs, rfl, ⟨[], rfl, Vals.nil _ _ _, by simp⟩⟩
  · simp at hcs
    have hg : ∀ r, r < len → (((Z r).take (Ln r)).map (fun n => UInt8.ofNat n.toNat)).length = Ln r := by
      intro r hr
      obtain ⟨_, h1, _, h2, _⟩ := hrow r (by omega)
      simp
      omega
    refine ⟨some a, len, cap, (List.range len).map (fun r => ((Z r).take (Ln r)).map (fun n => UInt8.ofNat n.toNat)), hcs, by simp, ⟨(List.range len).map (fun r => .slice (A r) (Ln r) (C r)), by simp, ?_, ?_⟩⟩
    · intro i v hv
      rw [List.getElem?_map] at hv
      obtain ⟨r, hr, rfl⟩ := Option.map_eq_some_iff.1 hv
      have hir : i = r ∧ i < len := by
        have := (List.getElem?_eq_some_iff.1 hr).1
        have h2 := (List.getElem?_eq_some_iff.1 hr).2
        simp at this h2
        exact ⟨h2, this⟩
      obtain ⟨rfl, hi⟩ := hir
      exact ⟨a, rfl, by simp, (hrow i (by omega)).1⟩
    · intro i bs hb2
      rw [List.getElem?_map] at hb2
      obtain ⟨r, hr, rfl⟩ := Option.map_eq_some_iff.1 hb2
      have hir : i = r ∧ i < len := by
        have := (List.getElem?_eq_some_iff.1 hr).1
        have h2 := (List.getElem?_eq_some_iff.1 hr).2
        simp at this h2
        exact ⟨h2, this⟩
      obtain ⟨rfl, hi⟩ := hir
      obtain ⟨_, h1, _, h2, hwz, h3, h4⟩ := hrow i (by omega)
      have hlen := hg i hi
      refine ⟨A i, C i, by rw [List.getElem?_map, hr, hlen]; rfl, ?_⟩
      intro j u hu
      have hj : j < Ln i ∧ j < (Z i).length := by
        have := (List.getElem?_eq_some_iff.1 hu).1
        simp at this
        omega
      cases hA : A i with
      | none => have := h3 hA; omega
      | some a' =>
        refine ⟨a', rfl, by simp, ?_⟩
        rw [(h4 a' hA).2 j (by omega)]
        simp only [List.getElem?_map, List.getElem?_take_of_lt hj.1, List.getElem?_eq_getElem hj.2, Option.map_some] at hu
        rw [List.getD_eq_getElem?_getD, List.getElem?_eq_getElem hj.2, ← hu]
        have hw8 := bounds_u8 (hwz (Z i)[j] (List.getElem_mem hj.2))
        simp only [Option.getD_some, B, UInt8.toNat_ofNat']
        congr 2
        omega

theorem its_of {fuel : Nat} {v : Value} {x : DataW H × List MemPlace} (h : DataW.trod enc Try.prog w base (fun _ => true) held fuel 22 [v] = some x) :
    ∃ (L : Option Addr) (n c : Nat) (its : List It), v = .slice L n c ∧ its.length = n ∧ Items w [] L its := by
  have hv : ∃ (L : Option Addr) (n c : Nat), v = .slice L n c := by
    rcases open_slice Try.underlying22 h with ⟨h0, _⟩ | ⟨a, len, cap, m, n, D, Pl, hcs, _⟩
    · simp at h0
      exact ⟨_, _, _, h0⟩
    · simp at hcs
      exact ⟨_, _, _, hcs⟩
  obtain ⟨L, n, c, rfl⟩ := hv
  obtain ⟨l, e0, w0, _⟩ := slab_of (n := 4) Try.underlying22 (by kernel_rfl) (fun _ cs x hl h => struct_cells Try.underlying3 Try.underlying52 (by kernel_rfl) (by simp) (by kernel_rfl) _ cs x hl h) h
  obtain ⟨its, hl, hi⟩ := items_of w0
  exact ⟨L, n, c, its, rfl, hl.trans e0, hi⟩

/-- A struct of one-cell fields: each field's cell, and what it reads as. -/
theorem struct_fields {P : Program} {spare : Nat → Bool} {e : TypeId} {fs : Array Field} {fuel : Nat} {cs : List Value} {x : DataW H × List MemPlace} (he : P.underlying e = some (.struct fs)) (hone : oneCellFields P fs = true) (hC : P.cellsOf e = fs.size)
    (h : DataW.trod enc P w base spare held fuel e cs = some x) : cs.length = fs.size ∧ ∃ n, ∀ (j : Nat) (f : Field), fs[j]? = some f → ∃ (v : Value) (y : DataW H × List MemPlace), cs[j]? = some v ∧ DataW.trod enc P w base spare held n f.type [v] = some y := by
  obtain ⟨ys, n', hn', hy, hlen, hyl, hf⟩ := DataW.trod_struct he h
  refine ⟨by rw [hlen, hC], n', fun j f hj => ?_⟩
  obtain ⟨ho, hk⟩ := hone_of hone j f hj
  have hjl : j < fs.size := (Array.getElem?_eq_some_iff.1 hj).1
  have hcl : j < cs.length := by rw [hlen, hC]; exact hjl
  have hv : cs[j]? = some (cs[j]'hcl) := List.getElem?_eq_getElem hcl
  have h1 := hf j f hj
  rw [ho, hk] at h1
  have hone' : (cs.drop j).take 1 = [cs[j]'hcl] := by
    rw [List.drop_eq_getElem_cons hcl]
    rfl
  rw [hone'] at h1
  have hys : ys[j]? = some (ys[j]'(by omega)) := List.getElem?_eq_getElem (by omega)
  exact ⟨_, _, hv, h1.trans hys⟩

/-- A record's five cells. -/
theorem rec_of {fuel : Nat} {cs : List Value} {x : DataW H × List MemPlace} (h : DataW.trod enc Try.prog w base (fun _ => true) held fuel 25 cs = some x) :
    ∃ (R : Rc) (L : Option Addr) (n c : Nat) (A : Option Addr) (k d : Nat), cs = [.int .i64 R.m, .int .i64 R.l, .int .i64 R.p, .slice L n c, .slice A k d] ∧ R.its.length = n ∧ R.bks.length = k ∧ Items w [] L R.its ∧ PartsAny w A R.bks := by
  obtain ⟨hl, n, hf⟩ := struct_fields Try.underlying25 (by kernel_rfl) (by kernel_rfl) h
  obtain ⟨v0, y0, c0, t0⟩ := hf 0 _ rfl
  obtain ⟨v1, y1, c1, t1⟩ := hf 1 _ rfl
  obtain ⟨v2, y2, c2, t2⟩ := hf 2 _ rfl
  obtain ⟨v3, y3, c3, t3⟩ := hf 3 _ rfl
  obtain ⟨v4, y4, c4, t4⟩ := hf 4 _ rfl
  obtain ⟨m, e0, _, _⟩ := DataW.trod_int Try.underlying3 t0
  obtain ⟨l, e1, _, _⟩ := DataW.trod_int Try.underlying3 t1
  obtain ⟨p, e2, _, _⟩ := DataW.trod_int Try.underlying3 t2
  obtain ⟨L, q, c, its, rfl, hi1, hi2⟩ := its_of t3
  obtain ⟨A, k, d, bss, rfl, hb1, hb2⟩ := blocks_of t4
  simp at e0 e1 e2
  subst e0 e1 e2
  refine ⟨⟨m, l, p, its, bss⟩, L, q, c, A, k, d, ?_, hi1, hb1, hi2, hb2⟩
  have hl5 : cs.length = 5 := hl
  match cs, hl5, c0, c1, c2, c3, c4 with
  | [u0, u1, u2, u3, u4], _, c0, c1, c2, c3, c4 =>
    simp at c0 c1 c2 c3 c4
    rw [c0, c1, c2, c3, c4]
end
end Go.Proofs.Ytepooidgmaokeaa.record
