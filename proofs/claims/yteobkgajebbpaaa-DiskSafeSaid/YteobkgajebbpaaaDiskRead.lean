/- Fault, Read. -/
import Derived.Test.YteobkgajebbpaaaDiskMade
namespace Go.Proofs.Yteobkgajebbpaaa.disk
open Go.RowKit Go.Proofs.Yteobkgajebbpaaa.mem Go.Proofs.Yteobkgajebbpaaa.base

theorem has_nat {D : Dk} {x : Int} (h : D.has x = true) : ∃ i : Nat, x = i ∧ i < D.n := by
  have : 0 ≤ x ∧ x < D.n := by simpa [Dk.has] using h
  exact ⟨x.toNat, by omega, by omega⟩
theorem fault_cell (fs : List Bool) (i : Nat) (h : i < fs.length) : (fs.map Value.bool)[i]? = some (.bool (fs.getD i false)) := by
  rw [List.getElem?_map, List.getElem?_eq_getElem h, List.getD_eq_getElem?_getD, List.getElem?_eq_getElem h]
  rfl

theorem fault_at (p : Nat) (F : List Nat) (D : Dk) (x : Int) (o : Bool) (w : World) (h : VD w F p D) : Calls Try.prog 22 #[.pointer (some ⟨p, 0, none⟩), .int .i64 x, .bool o] w fun e w' =>
    e = .returned (.int .i64 (D.faulted x o).1) ∧ VD w' F p (D.faulted x o).2 ∧ Kept F w w' := by
  have H := hide h
  clear h
  obtain ⟨q, hq⟩ : ∃ q, D.has x = q := ⟨_, rfl⟩
  cases q
  · have e : D.faulted x o = (1, D) := by simp [Dk.faulted, hq]
    rw [e]
    have HQ := hide hq
    clear e hq
    go_enter Try.func22, Try.ntmps22
    go_wp2_with fail
    refine (has_at p F D x _ H.out).mono ?_
    rintro e w' ⟨rfl, rfl⟩
    rw [HQ.out]
    go_wp2
    go_ret
    exact ⟨rfl, H.out, Kept.refl _ _⟩
  · have e : D.faulted x o = (0, { D with faults := D.faults.set x.toNat o }) := by simp [Dk.faulted, hq]
    rw [e]
    have HQ := hide hq
    obtain ⟨i, rfl, hi⟩ := has_nat hq
    rw [Int.toNat_natCast]
    clear e hq
    obtain ⟨ho, gs, gn, gf, hA, cs, cn, cf, hc, fv, h, hF⟩ := H.out
    have h3 : w.cell? ⟨p, 3, none⟩ = some (.slice (some ⟨gf, 0, none⟩) D.n cf) := h.blk.cell 3
    have c1 := h.faults.cell (fault_cell D.faults i hi)
    have f1 := h.faults.frozen i
    have h0 := hide h
    have HF := hide hF
    have HO := hide (ho.faulted i o)
    clear h hF ho
    go_enter Try.func22, Try.ntmps22
    go_wp2_with fail
    refine (has_at p F D i _ H.out).mono ?_
    rintro e w' ⟨rfl, rfl⟩
    rw [HQ.out]
    go_wp2
    go_ret
    have hv := h0.out
    have k : Kept [gf] w (w.setCell ⟨gf, i, none⟩ (.bool o)) := (Kept.refl _ _).set_ (.inl (by simp)) _ _
    have hfp : gf ≠ p := Row.ne_ hv.faults (Row.of_blk hv.blk) (by decide)
    have hfs : gf ≠ gs := Row.ne_ hv.faults hv.safe (by decide)
    have hfn : gf ≠ gn := Row.ne_ hv.faults hv.now (by decide)
    have en : Dk.n { D with faults := D.faults.set i o } = D.n := by simp [Dk.n]
    refine ⟨rfl, ⟨HO.out, gs, gn, gf, hA, cs, cn, cf, hc, fv, ⟨?_, hv.safe.kept k (by simpa using Ne.symm hfs), hv.now.kept k (by simpa using Ne.symm hfn), hv.ne, ?_, own_kept hv.held k (fun g hg hm => ?_), hv.lo, hv.hi, hv.fuse, by rw [en]; exact hv.cs1, by rw [en]; exact hv.cn1, by rw [en]; exact hv.cf1⟩, HF.out⟩, k.mono (fun j hj => .inl (by rw [HF.out]; simp at hj; simp [feet, hj]))⟩
    · rw [en]
      exact k.blk hv.blk (by simpa using Ne.symm hfp)
    · have := hv.faults.set_ i (.bool o)
      rw [← List.map_set] at this
      exact this
    · simp at hm
      subst hm
      rcases hv.held.2 with ⟨h2, _⟩ | ⟨g', cap, cur, hv', hb', hh', r⟩
      · injection h2 with h2
        subst h2
        cases hg
      · injection hv' with hv'
        subst hv'
        injection hg with hg
        subst hg
        exact Row.ne_ (Row.of_blk (show Blk w g' 72 cur from hh')) hv.faults (by decide) rfl

theorem ret_err {A : Option Addr} {n n' c : Nat} {e : Int} (h : n = n') : Ending.returned (.tuple #[.slice A n c, .int .i64 e]) = Ending.returned (.tuple #[.slice A n' c, .int .i64 e]) := by rw [h]

/-- What a Read answers. -/
def Answers (w w' : World) (e : Ending) (r : Int × List UInt8) : Prop := ∃ A c, e = .returned (.tuple #[.slice A r.2.length c, .int .i64 r.1]) ∧ Fresh w w' A r.2.length c r.2

set_option maxRecDepth 100000 in
theorem read_at (p : Nat) (F : List Nat) (D : Dk) (x : Int) (w : World) (h : VD w F p D) : Calls Try.prog 17 #[.pointer (some ⟨p, 0, none⟩), .int .i64 x] w fun e w' =>
    Answers w w' e (D.read x) ∧ Kept [] w w' := by
  have H := hide h
  clear h
  obtain ⟨q, hq⟩ : ∃ q, D.has x = q := ⟨_, rfl⟩
  cases q
  · have e : D.read x = (1, []) := by simp [Dk.read, hq]
    rw [e]
    have HQ := hide hq
    clear e hq
    go_enter Try.func17, Try.ntmps17
    go_wp2_with fail
    refine (has_at p F D x _ H.out).mono ?_
    rintro e w' ⟨rfl, rfl⟩
    rw [HQ.out]
    go_wp2
    go_ret2
    exact ⟨⟨none, 0, rfl, Fresh.none _ _⟩, Kept.refl _ _⟩
  · have HQ := hide hq
    obtain ⟨i, rfl, hi⟩ := has_nat hq
    obtain ⟨ho, gs, gn, gf, hA, cs, cn, cf, hc, fv, h, hF⟩ := H.out
    have h1 : w.cell? ⟨p, 1, none⟩ = some (.slice (some ⟨gn, 0, none⟩) D.n cn) := h.blk.cell 1
    have h3 : w.cell? ⟨p, 3, none⟩ = some (.slice (some ⟨gf, 0, none⟩) D.n cf) := h.blk.cell 3
    have h6 : w.cell? ⟨p, 6, none⟩ = some (.bool D.off) := h.blk.cell 6
    have c1 := h.faults.cell (fault_cell D.faults i hi)
    have hn := ho.n2
    have HN := hide ho.now
    have HW := hide h.now
    obtain ⟨o, hoff⟩ : ∃ o, D.off = o := ⟨_, rfl⟩
    obtain ⟨f, hflt⟩ : ∃ f, D.faults.getD i false = f := ⟨_, rfl⟩
    rw [hoff] at h6
    rw [hflt] at c1
    have e : D.read i = (if o = true then (3, []) else if f = true then (4, []) else (0, sec D.now i)) := by unfold Dk.read; rw [hq, hoff, Int.toNat_natCast, hflt]; rfl
    rw [e]
    clear e hq hoff hflt h hF ho
    cases o
    · cases f
      · rw [if_neg (by simp), if_neg (by simp)]
        have HS := hide (sec_length D.now i D.n HN.out hi)
        have HV : Hid (Vals w [] (some ⟨gn, i * 64, none⟩) ((sec D.now i).map B)) := hide (by rw [sec_map, Nat.mul_comm]; exact HW.out.vals (by simp) _ _)
        go_enter Try.func17, Try.ntmps17
        go_wp2_with fail
        refine (has_at p F D i _ H.out).mono ?_
        rintro e w' ⟨rfl, rfl⟩
        rw [HQ.out]
        go_wp2_with fail
        refine (clone_some ⟨gn, i * 64, none⟩ 64 64 (sec D.now i) _ HV.out HS.out (by omega)).mono ?_
        rintro e w1 ⟨g, cap, rfl, hfr, hk⟩
        go_wp2
        go_ret2
        refine ⟨⟨some ⟨g, 0, none⟩, cap, ret_err HS.out.symm, ?_⟩, hk⟩
        rw [HS.out]
        exact hfr
      · rw [if_neg (by simp), if_pos rfl]
        go_enter Try.func17, Try.ntmps17
        go_wp2_with fail
        refine (has_at p F D i _ H.out).mono ?_
        rintro e w' ⟨rfl, rfl⟩
        rw [HQ.out]
        go_wp2
        go_ret2
        exact ⟨⟨none, 0, rfl, Fresh.none _ _⟩, Kept.refl _ _⟩
    · rw [if_pos rfl]
      go_enter Try.func17, Try.ntmps17
      go_wp2_with fail
      refine (has_at p F D i _ H.out).mono ?_
      rintro e w' ⟨rfl, rfl⟩
      rw [HQ.out]
      go_wp2
      go_ret2
      exact ⟨⟨none, 0, rfl, Fresh.none _ _⟩, Kept.refl _ _⟩
end Go.Proofs.Yteobkgajebbpaaa.disk
