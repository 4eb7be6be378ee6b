/- The program's disk in memory; its small methods: Sectors, Held, Acts, Off, has, act, Fuse, Fault. -/
import Derived.Test.YteobkgajebbpaaaDiskModel
namespace Go.Proofs.Yteobkgajebbpaaa.disk
open Go.RowKit Go.Proofs.Yteobkgajebbpaaa.mem Go.Proofs.Yteobkgajebbpaaa.base

/-- The program's disk lies at p. -/
structure VDat (w : World) (p : Nat) (D : Dk) (gs gn gf : Nat) (hA : Option Addr) (cs cn cf hc : Nat) (fv : Int) : Prop where
  blk : Blk w p 75 #[.slice (some ⟨gs, 0, none⟩) D.n cs, .slice (some ⟨gn, 0, none⟩) D.n cn, .slice hA D.held.length hc, .slice (some ⟨gf, 0, none⟩) D.n cf, .int .i64 fv, .int .i64 D.acts, .bool D.off]
  safe : Row w gs 70 (D.safe.map B)
  now : Row w gn 70 (D.now.map B)
  ne : gs ≠ gn
  faults : Row w gf 4 (D.faults.map Value.bool)
  held : w.ownsRow 0 72 65 (.slice hA D.held.length hc) D.held.length (heldCells D.held)
  lo : -1 ≤ fv
  hi : fv < 9223372036854775808
  fuse : D.off = false → fv = D.fuse
  cs1 : D.n ≤ cs
  cn1 : D.n ≤ cn
  cf1 : D.n ≤ cf

def feet (p gs gn gf : Nat) (hA : Option Addr) : List Nat := p :: gs :: gn :: gf :: (hA.map Addr.block).toList
def VD (w : World) (F : List Nat) (p : Nat) (D : Dk) : Prop := D.ok ∧ ∃ gs gn gf hA cs cn cf hc fv, VDat w p D gs gn gf hA cs cn cf hc fv ∧ F = feet p gs gn gf hA

theorem own_kept {w w' : World} {S : List Nat} {e : TypeId} {size n m c : Nat} {A : Option Addr} {xs : List Value} (h : w.ownsRow 0 e size (.slice A m c) n xs) (k : Kept S w w') (hs : ∀ g, A.map Addr.block = some g → g ∉ S) : w'.ownsRow 0 e size (.slice A m c) n xs := by
  refine ⟨h.1, ?_⟩
  rcases h.2 with h2 | ⟨g, cap, cur, hv, hb, hh, r⟩
  · exact .inl h2
  · refine .inr ⟨g, cap, cur, hv, hb, ?_, r⟩
    injection hv with hv
    subst hv
    exact (k.block g (Blk.lt (show Blk w g e cur from hh)) (hs g rfl)).trans hh

section
variable {w w' : World} {p gs gn gf cs cn cf hc : Nat} {D : Dk} {hA : Option Addr} {fv : Int} {F : List Nat}
theorem VDat.drewN (h : VDat w p D gs gn gf hA cs cn cf hc fv) (n : Nat) : VDat (w.drewN n) p D gs gn gf hA cs cn cf hc fv := ⟨h.blk, h.safe, h.now, h.ne, h.faults, h.held, h.lo, h.hi, h.fuse, h.cs1, h.cn1, h.cf1⟩
theorem VDat.drew (h : VDat w p D gs gn gf hA cs cn cf hc fv) : VDat w.drew p D gs gn gf hA cs cn cf hc fv := ⟨h.blk, h.safe, h.now, h.ne, h.faults, h.held, h.lo, h.hi, h.fuse, h.cs1, h.cn1, h.cf1⟩
theorem VDat.kept {S : List Nat} (h : VDat w p D gs gn gf hA cs cn cf hc fv) (k : Kept S w w') (hs : ∀ x ∈ feet p gs gn gf hA, x ∉ S) : VDat w' p D gs gn gf hA cs cn cf hc fv :=
  ⟨k.blk h.blk (hs _ (by simp [feet])), h.safe.kept k (hs _ (by simp [feet])), h.now.kept k (hs _ (by simp [feet])), h.ne, h.faults.kept k (hs _ (by simp [feet])), own_kept h.held k (fun g hg => hs _ (by simp [feet, hg])), h.lo, h.hi, h.fuse, h.cs1, h.cn1, h.cf1⟩
theorem VD.drewN (h : VD w F p D) (n : Nat) : VD (w.drewN n) F p D := by
  obtain ⟨ho, gs, gn, gf, hA, cs, cn, cf, hc, fv, h, hF⟩ := h
  exact ⟨ho, gs, gn, gf, hA, cs, cn, cf, hc, fv, h.drewN n, hF⟩
theorem VD.kept {S : List Nat} (h : VD w F p D) (k : Kept S w w') (hs : ∀ x ∈ F, x ∉ S) : VD w' F p D := by
  obtain ⟨ho, gs, gn, gf, hA, cs, cn, cf, hc, fv, h, rfl⟩ := h
  exact ⟨ho, gs, gn, gf, hA, cs, cn, cf, hc, fv, h.kept k hs, rfl⟩
theorem VDat.heldLt (h : VDat w p D gs gn gf hA cs cn cf hc fv) {g : Nat} (hg : hA.map Addr.block = some g) : g < w.heap.size := by
  rcases h.held.2 with ⟨h2, _⟩ | ⟨g', cap, cur, hv, hb, hh, r⟩
  · injection h2 with h2
    subst h2
    cases hg
  · injection hv with hv
    subst hv
    injection hg with hg
    subst hg
    exact Blk.lt (show Blk w g' _ cur from hh)
theorem VD.lt (h : VD w F p D) : ∀ x ∈ F, x < w.heap.size := by
  obtain ⟨ho, gs, gn, gf, hA, cs, cn, cf, hc, fv, h, rfl⟩ := h
  intro x hx
  simp only [feet, List.mem_cons] at hx
  rcases hx with rfl | rfl | rfl | rfl | hx
  · exact h.blk.lt
  · exact h.safe.lt
  · exact h.now.lt
  · exact h.faults.lt
  · exact h.heldLt (by simpa using hx)
theorem VD.mem (h : VD w F p D) : p ∈ F := by
  obtain ⟨ho, gs, gn, gf, hA, cs, cn, cf, hc, fv, h, rfl⟩ := h
  simp [feet]
theorem VD.plt (h : VD w F p D) : p < w.heap.size := h.lt _ h.mem
end

theorem sectors_nil (w : World) : Calls Try.prog 44 #[.pointer none] w fun e w' => e = .returned (.int .i64 0) ∧ w = w' := by
  go_enter Try.func44, Try.ntmps44
  go_wp2
  go_ret
  exact ⟨rfl, rfl⟩
theorem sectors_at (p : Nat) (F : List Nat) (D : Dk) (w : World) (h : VD w F p D) : Calls Try.prog 44 #[.pointer (some ⟨p, 0, none⟩)] w fun e w' => e = .returned (.int .i64 D.n) ∧ w = w' := by
  obtain ⟨ho, gs, gn, gf, hA, cs, cn, cf, hc, fv, h, hF⟩ := h
  have h0 : w.cell? ⟨p, 0, none⟩ = some (.slice (some ⟨gs, 0, none⟩) D.n cs) := h.blk.cell 0
  clear h hF ho
  go_enter Try.func44, Try.ntmps44
  go_wp2
  go_ret
  exact ⟨rfl, rfl⟩
theorem held_at (p : Nat) (F : List Nat) (D : Dk) (w : World) (h : VD w F p D) : Calls Try.prog 28 #[.pointer (some ⟨p, 0, none⟩)] w fun e w' => e = .returned (.int .i64 D.held.length) ∧ w = w' := by
  obtain ⟨ho, gs, gn, gf, hA, cs, cn, cf, hc, fv, h, hF⟩ := h
  have h0 : w.cell? ⟨p, 2, none⟩ = some (.slice hA D.held.length hc) := h.blk.cell 2
  clear h hF ho
  go_enter Try.func28, Try.ntmps28
  go_wp2
  go_ret
  exact ⟨rfl, rfl⟩
theorem acts_at (p : Nat) (F : List Nat) (D : Dk) (w : World) (h : VD w F p D) : Calls Try.prog 29 #[.pointer (some ⟨p, 0, none⟩)] w fun e w' => e = .returned (.int .i64 D.acts) ∧ w = w' := by
  obtain ⟨ho, gs, gn, gf, hA, cs, cn, cf, hc, fv, h, hF⟩ := h
  have h0 : w.cell? ⟨p, 5, none⟩ = some (.int .i64 D.acts) := h.blk.cell 5
  clear h hF ho
  go_enter Try.func29, Try.ntmps29
  go_wp2
  go_ret
  exact ⟨rfl, rfl⟩
theorem off_nil (w : World) : Calls Try.prog 30 #[.pointer none] w fun e w' => e = .returned (.bool true) ∧ w = w' := by
  go_enter Try.func30, Try.ntmps30
  go_wp2
  go_ret
  exact ⟨rfl, rfl⟩
theorem off_at (p : Nat) (F : List Nat) (D : Dk) (w : World) (h : VD w F p D) : Calls Try.prog 30 #[.pointer (some ⟨p, 0, none⟩)] w fun e w' => e = .returned (.bool D.off) ∧ w = w' := by
  obtain ⟨ho, gs, gn, gf, hA, cs, cn, cf, hc, fv, h, hF⟩ := h
  have h0 : w.cell? ⟨p, 6, none⟩ = some (.bool D.off) := h.blk.cell 6
  clear h hF ho
  go_enter Try.func30, Try.ntmps30
  go_wp2
  go_ret
  exact ⟨rfl, rfl⟩
theorem has_at (p : Nat) (F : List Nat) (D : Dk) (x : Int) (w : World) (h : VD w F p D) : Calls Try.prog 34 #[.pointer (some ⟨p, 0, none⟩), .int .i64 x] w fun e w' => e = .returned (.bool (D.has x)) ∧ w = w' := by
  have H := hide h
  clear h
  by_cases hx : x < 0
  · have e : D.has x = false := decide_eq_false (by omega)
    rw [e]
    clear e
    go_enter Try.func34, Try.ntmps34
    go_wp2
    go_ret
    exact ⟨rfl, rfl⟩
  · have hx' : 0 ≤ x := by omega
    have e := hide (show (decide (x < D.n) = D.has x) by simp [Dk.has, hx'])
    clear hx
    go_enter Try.func34, Try.ntmps34
    go_wp2_with fail
    refine (sectors_at p F D _ H.out).mono ?_
    rintro e w' ⟨rfl, rfl⟩
    go_wp2
    go_ret
    exact ⟨congrArg (fun q => Ending.returned (.bool q)) e.out, rfl⟩

set_option maxRecDepth 100000 in
theorem act_at (p : Nat) (F : List Nat) (D : Dk) (w : World) (h : VD w F p D) (hb : D.acts < 1000000) : Calls Try.prog 35 #[.pointer (some ⟨p, 0, none⟩)] w fun e w' => e = .returned (.bool D.tick) ∧ VD w' F p D.ticked ∧ Kept [p] w w' := by
  obtain ⟨ho, gs, gn, gf, hA, cs, cn, cf, hc, fv, h, hF⟩ := h
  have HT := hide (@ticked_same D)
  have HN := hide (@ticked_n D)
  have HO := hide ho.ticked
  have h4 : w.cell? ⟨p, 4, none⟩ = some (.int .i64 fv) := h.blk.cell 4
  have h5 : w.cell? ⟨p, 5, none⟩ = some (.int .i64 D.acts) := h.blk.cell 5
  have h6 : w.cell? ⟨p, 6, none⟩ = some (.bool D.off) := h.blk.cell 6
  have f4 := h.blk.frozen 4
  have f5 := h.blk.frozen 5
  have f6 := h.blk.frozen 6
  have hlo := h.lo
  have hhi := h.hi
  have H := hide h
  have HF := hide hF
  clear h hF ho
  have fin : ∀ (fv' : Int) (o' : Bool) (w' : World), Kept [p] w w' → Blk w' p 75 #[.slice (some ⟨gs, 0, none⟩) D.n cs, .slice (some ⟨gn, 0, none⟩) D.n cn, .slice hA D.held.length hc, .slice (some ⟨gf, 0, none⟩) D.n cf, .int .i64 fv', .int .i64 ((D.acts : Int) + 1), .bool o'] →
      o' = D.ticked.off → -1 ≤ fv' → fv' < 9223372036854775808 → (D.ticked.off = false → fv' = D.ticked.fuse) → VD w' F p D.ticked ∧ Kept [p] w w' := by
    intro fv' o' w' hk hb ho' hl hh hf
    subst ho'
    obtain ⟨e1, e2, e3, e4⟩ := HT.out
    have hs := H.out
    have en : D.ticked.now = D.now := by unfold Dk.now; rw [e1, e2]
    have hne : ∀ {g t vs}, Row w g t vs → t ≠ 75 → g ∉ [p] := fun {g t vs} hr ht hm => by
      simp at hm
      subst hm
      exact Row.ne_ hr (Row.of_blk hs.blk) ht rfl
    refine ⟨⟨HO.out, gs, gn, gf, hA, cs, cn, cf, hc, fv', ⟨?_, ?_, ?_, hs.ne, ?_, ?_, hl, hh, hf, ?_, ?_, ?_⟩, HF.out⟩, hk⟩
    · rw [HN.out, e2, e4]
      exact hb
    · rw [e1]
      exact hs.safe.kept hk (hne hs.safe (by decide))
    · rw [en]
      exact hs.now.kept hk (hne hs.now (by decide))
    · rw [e3]
      exact hs.faults.kept hk (hne hs.faults (by decide))
    · rw [e2]
      refine own_kept hs.held hk (fun g hg hm => ?_)
      simp at hm
      subst hm
      rcases hs.held.2 with ⟨h2, _⟩ | ⟨g', cap, cur, hv, hb', hh', r⟩
      · injection h2 with h2
        subst h2
        cases hg
      · injection hv with hv
        subst hv
        injection hg with hg
        subst hg
        exact Row.ne_ (Row.of_blk (show Blk w g' 72 cur from hh')) (Row.of_blk hs.blk) (by decide) rfl
    · rw [HN.out]; exact hs.cs1
    · rw [HN.out]; exact hs.cn1
    · rw [HN.out]; exact hs.cf1
  have HFin := hide fin
  clear fin
  rcases Int.lt_trichotomy fv 0 with hl | hl | hl
  · obtain ⟨o, hoff⟩ : ∃ o, D.off = o := ⟨_, rfl⟩
    rw [hoff] at h6
    have E := hide hoff
    clear hoff
    have e1 : Hid (D.tick = !o) := hide (by
      unfold Dk.tick
      rw [E.out]
      cases ho : o
      · have := H.out.fuse (by rw [E.out, ho])
        simp; omega
      · rfl)
    go_enter Try.func35, Try.ntmps35
    go_wp2
    go_ret
    refine ⟨congrArg (fun q => Ending.returned (.bool q)) e1.out.symm, HFin.out fv o _ ((Kept.refl _ _).set_ (.inl (by simp)) _ _) (by have := H.out.blk.set_ 5 (.int .i64 ((D.acts : Int) + 1)); rw [E.out] at this; simpa using this) ?_ hlo hhi ?_⟩
    · unfold Dk.ticked
      rw [e1.out]
      cases o
      · simpa using E.out.symm
      · rfl
    · intro hq
      unfold Dk.ticked at hq ⊢
      rw [e1.out] at hq ⊢
      cases o
      · have := H.out.fuse E.out
        simp; omega
      · simp at hq
  · subst hl
    have e1 : Hid (D.tick = false) := hide (by
      unfold Dk.tick
      cases ho : D.off
      · have := H.out.fuse ho
        simp; omega
      · rfl)
    go_enter Try.func35, Try.ntmps35
    go_wp2
    go_ret
    refine ⟨congrArg (fun q => Ending.returned (.bool q)) e1.out.symm, HFin.out 0 true _ (((Kept.refl _ _).set_ (.inl (by simp)) _ _).set_ (.inl (by simp)) _ _) (by have := (H.out.blk.set_ 5 (.int .i64 ((D.acts : Int) + 1))).set_ 6 (.bool true); simpa using this) ?_ hlo hhi ?_⟩
    · unfold Dk.ticked
      rw [e1.out]
      rfl
    · intro hq
      unfold Dk.ticked at hq
      rw [e1.out] at hq
      simp at hq
  · obtain ⟨o, hoff⟩ : ∃ o, D.off = o := ⟨_, rfl⟩
    rw [hoff] at h6
    have E := hide hoff
    clear hoff
    have e1 : Hid (D.tick = !o) := hide (by
      unfold Dk.tick
      rw [E.out]
      cases ho : o
      · have := H.out.fuse (by rw [E.out, ho])
        simp; omega
      · rfl)
    go_enter Try.func35, Try.ntmps35
    go_wp2
    go_ret
    refine ⟨congrArg (fun q => Ending.returned (.bool q)) e1.out.symm, HFin.out (fv - 1) o _ (((Kept.refl _ _).set_ (.inl (by simp)) _ _).set_ (.inl (by simp)) _ _) (by have := (H.out.blk.set_ 5 (.int .i64 ((D.acts : Int) + 1))).set_ 4 (.int .i64 (fv - 1)); rw [E.out] at this; simpa using this) ?_ (by omega) (by omega) ?_⟩
    · unfold Dk.ticked
      rw [e1.out]
      cases o
      · simpa using E.out.symm
      · rfl
    · intro hq
      unfold Dk.ticked at hq ⊢
      rw [e1.out] at hq ⊢
      cases o
      · have := H.out.fuse E.out
        simp; omega
      · simp at hq
end Go.Proofs.Yteobkgajebbpaaa.disk
