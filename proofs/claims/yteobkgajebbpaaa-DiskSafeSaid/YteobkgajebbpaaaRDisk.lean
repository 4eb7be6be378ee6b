/- The reference's disk in memory; its small methods. -/
import Derived.Test.YteobkgajebbpaaaDiskSums
namespace Go.Proofs.Yteobkgajebbpaaa.disk
open Go.RowKit Go.Proofs.Yteobkgajebbpaaa.mem Go.Proofs.Yteobkgajebbpaaa.base

def sl (g : Nat) : Value := .slice (some ⟨g, 0, none⟩) 64 64
def hcells (l : List (Nat × List UInt8)) (gs : List Nat) : List Value := (l.zip gs).flatMap fun x => [I x.1.1, sl x.2]
theorem hcells_length (l : List (Nat × List UInt8)) (gs : List Nat) (h : gs.length = l.length) : (hcells l gs).length = l.length * 2 := by
  induction l generalizing gs with
  | nil => simp [hcells]
  | cons x l ih =>
    cases gs with
    | nil => simp at h
    | cons g gs =>
      have := ih gs (by simpa using h)
      unfold hcells at this ⊢
      rw [List.zip_cons_cons, List.flatMap_cons, List.length_append, this]
      simp
      omega
theorem hcells_snoc (l : List (Nat × List UInt8)) (gs : List Nat) (h : gs.length = l.length) (x : Nat × List UInt8) (g : Nat) : hcells (l ++ [x]) (gs ++ [g]) = hcells l gs ++ [I x.1, sl g] := by
  unfold hcells
  rw [List.zip_append (by omega), List.flatMap_append]
  simp
theorem hcells_at (l : List (Nat × List UInt8)) (gs : List Nat) (h : gs.length = l.length) (k : Nat) (x : Nat × List UInt8) (g : Nat) (hx : l[k]? = some x) (hg : gs[k]? = some g) : (hcells l gs)[k * 2]? = some (I x.1) ∧ (hcells l gs)[k * 2 + 1]? = some (sl g) := by
  induction l generalizing gs k with
  | nil => simp at hx
  | cons y l ih =>
    cases gs with
    | nil => simp at h
    | cons g0 gs =>
      have e : hcells (y :: l) (g0 :: gs) = I y.1 :: sl g0 :: hcells l gs := by simp [hcells]
      rw [e]
      cases k with
      | zero =>
        simp at hx hg
        subst hx hg
        exact ⟨rfl, rfl⟩
      | succ k =>
        have := ih gs (by simpa using h) k (by simpa using hx) (by simpa using hg)
        rw [show (k + 1) * 2 = k * 2 + 2 by omega]
        simpa using this

structure RDat (w : World) (r : Nat) (D : Dk) (gs gf : Nat) (hA : Option Addr) (sgs hgs : List Nat) (cs cf hc : Nat) (fv : Int) (lA : Option Addr) (lc : Nat) : Prop where
  blk : Blk w r 55 #[.slice (some ⟨gs, 0, none⟩) D.n cs, .slice hA D.held.length hc, .slice (some ⟨gf, 0, none⟩) D.n cf, .int .i64 fv, .bool D.off, .int .i64 D.acts, .slice lA 0 lc]
  srow : Row w gs 34 (sgs.map sl)
  slen : sgs.length = D.n
  safe : ∀ (i g : Nat), sgs[i]? = some g → Row w g 5 ((sec D.safe i).map B)
  hrow : w.ownsRow 0 78 2 (.slice hA D.held.length hc) D.held.length (hcells D.held hgs)
  hlen : hgs.length = D.held.length
  hdat : ∀ (i g : Nat) (x : Nat × List UInt8), hgs[i]? = some g → D.held[i]? = some x → Row w g 5 (x.2.map B)
  faults : Row w gf 4 (D.faults.map Value.bool)
  lo : -1 ≤ fv
  hi : fv < 9223372036854775808
  fuse : D.off = false → fv = D.fuse
  cs1 : D.n ≤ cs
  cf1 : D.n ≤ cf
  lnil : lA = none → lc = 0

def rfeet (r gs gf : Nat) (hA : Option Addr) (sgs hgs : List Nat) : List Nat := r :: gs :: gf :: ((hA.map Addr.block).toList ++ (sgs ++ hgs))
def RD (w : World) (F : List Nat) (r : Nat) (D : Dk) : Prop := D.ok ∧ ∃ gs gf hA sgs hgs cs cf hc fv lA lc, RDat w r D gs gf hA sgs hgs cs cf hc fv lA lc ∧ F = rfeet r gs gf hA sgs hgs

section
variable {w w' : World} {r gs gf cs cf hc lc : Nat} {D : Dk} {hA lA : Option Addr} {sgs hgs : List Nat} {fv : Int} {F : List Nat}
theorem getElem?_mem {l : List Nat} {i g : Nat} (h : l[i]? = some g) : g ∈ l := List.mem_of_getElem? h
theorem RDat.kept {S : List Nat} (h : RDat w r D gs gf hA sgs hgs cs cf hc fv lA lc) (k : Kept S w w') (hs : ∀ x ∈ rfeet r gs gf hA sgs hgs, x ∉ S) : RDat w' r D gs gf hA sgs hgs cs cf hc fv lA lc :=
  ⟨k.blk h.blk (hs _ (by simp [rfeet])), h.srow.kept k (hs _ (by simp [rfeet])), h.slen, fun i g hg => (h.safe i g hg).kept k (hs _ (by have := getElem?_mem hg; simp [rfeet, this])),
    own_kept h.hrow k (fun g hg => hs _ (by simp [rfeet, hg])), h.hlen, fun i g x hg hx => (h.hdat i g x hg hx).kept k (hs _ (by have := getElem?_mem hg; simp [rfeet, this])), h.faults.kept k (hs _ (by simp [rfeet])), h.lo, h.hi, h.fuse, h.cs1, h.cf1, h.lnil⟩
theorem RD.kept {S : List Nat} (h : RD w F r D) (k : Kept S w w') (hs : ∀ x ∈ F, x ∉ S) : RD w' F r D := by
  obtain ⟨ho, gs, gf, hA, sgs, hgs, cs, cf, hc, fv, lA, lc, h, rfl⟩ := h
  exact ⟨ho, gs, gf, hA, sgs, hgs, cs, cf, hc, fv, lA, lc, h.kept k hs, rfl⟩
theorem RD.drewN (h : RD w F r D) (n : Nat) : RD (w.drewN n) F r D := h.kept ((Kept.refl [] _).drewN n) (by simp)
theorem own_lt {e : TypeId} {size n m c : Nat} {A : Option Addr} {xs : List Value} (h : w.ownsRow 0 e size (.slice A m c) n xs) {g : Nat} (hg : A.map Addr.block = some g) : g < w.heap.size ∧ ∃ cur, Blk w g e cur := by
  rcases h.2 with ⟨h2, _⟩ | ⟨g', cap, cur, hv, hb, hh, r⟩
  · injection h2 with h2
    subst h2
    cases hg
  · injection hv with hv
    subst hv
    injection hg with hg
    subst hg
    exact ⟨Blk.lt (show Blk w g' _ cur from hh), cur, hh⟩
theorem RD.lt (h : RD w F r D) : ∀ x ∈ F, x < w.heap.size := by
  obtain ⟨ho, gs, gf, hA, sgs, hgs, cs, cf, hc, fv, lA, lc, h, rfl⟩ := h
  intro x hx
  simp only [rfeet, List.mem_cons, List.mem_append] at hx
  rcases hx with rfl | rfl | rfl | hx | hx | hx
  · exact h.blk.lt
  · exact h.srow.lt
  · exact h.faults.lt
  · exact (own_lt h.hrow (by simpa using hx)).1
  · obtain ⟨i, hi, rfl⟩ := List.getElem_of_mem hx
    exact (h.safe i _ (List.getElem?_eq_getElem hi)).lt
  · obtain ⟨i, hi, rfl⟩ := List.getElem_of_mem hx
    exact (h.hdat i _ _ (List.getElem?_eq_getElem hi) (List.getElem?_eq_getElem (by have := h.hlen; omega))).lt
theorem RD.mem (h : RD w F r D) : r ∈ F := by
  obtain ⟨ho, gs, gf, hA, sgs, hgs, cs, cf, hc, fv, lA, lc, h, rfl⟩ := h
  simp [rfeet]

/-- Only the struct has turned. -/
theorem RDat.restruct {D' : Dk} {fv' : Int} (h : RDat w r D gs gf hA sgs hgs cs cf hc fv lA lc) (k : Kept [r] w w') (e1 : D'.safe = D.safe) (e2 : D'.held = D.held) (e3 : D'.faults = D.faults)
    (hb : Blk w' r 55 #[.slice (some ⟨gs, 0, none⟩) D.n cs, .slice hA D.held.length hc, .slice (some ⟨gf, 0, none⟩) D.n cf, .int .i64 fv', .bool D'.off, .int .i64 D'.acts, .slice lA 0 lc])
    (hl : -1 ≤ fv') (hh : fv' < 9223372036854775808) (hf : D'.off = false → fv' = D'.fuse) : RDat w' r D' gs gf hA sgs hgs cs cf hc fv' lA lc := by
  have en : D'.n = D.n := by unfold Dk.n; rw [e3]
  have hne : ∀ {g t vs}, Row w g t vs → t ≠ 55 → g ∉ [r] := fun {g t vs} hr ht hm => by
    simp at hm
    subst hm
    exact Row.ne_ hr (Row.of_blk h.blk) ht rfl
  refine ⟨by rw [en, e2]; exact hb, h.srow.kept k (hne h.srow (by decide)), by rw [en]; exact h.slen, fun i g hg => by rw [e1]; exact (h.safe i g hg).kept k (hne (h.safe i g hg) (by decide)), ?_, by rw [e2]; exact h.hlen, fun i g x hg hx => by rw [e2] at hx; exact (h.hdat i g x hg hx).kept k (hne (h.hdat i g x hg hx) (by decide)), by rw [e3]; exact h.faults.kept k (hne h.faults (by decide)), hl, hh, hf, by rw [en]; exact h.cs1, by rw [en]; exact h.cf1, h.lnil⟩
  rw [e2]
  refine own_kept h.hrow k (fun g hg => ?_)
  obtain ⟨_, cur, hc⟩ := own_lt h.hrow hg
  exact hne (Row.of_blk hc) (by decide)
end

/-- A disk of the reference's behind a call. -/
def RTurned (w w' : World) (F : List Nat) (r : Nat) (D' : Dk) : Prop := ∃ F', RD w' F' r D' ∧ (∀ x ∈ F', x ∈ F ∨ w.heap.size ≤ x) ∧ Kept F w w'
theorem RTurned.same {w : World} {F : List Nat} {r : Nat} {D : Dk} (h : RD w F r D) : RTurned w w F r D := ⟨F, h, fun _ hx => .inl hx, Kept.refl _ _⟩
theorem RTurned.of_kept {w w' : World} {F S : List Nat} {r : Nat} {D : Dk} (h : RD w' F r D) (k : Kept S w w') (hs : ∀ x ∈ S, x ∈ F) : RTurned w w' F r D := ⟨F, h, fun _ hx => .inl hx, k.mono (fun x hx => .inl (hs x hx))⟩

set_option maxRecDepth 100000 in
theorem ract_at (r : Nat) (F : List Nat) (D : Dk) (w : World) (h : RD w F r D) (hb : D.acts < 1000000) : Calls Try.prog 36 #[.pointer (some ⟨r, 0, none⟩)] w fun e w' => e = .returned (.bool D.tick) ∧ RD w' F r D.ticked ∧ Kept [r] w w' := by
  obtain ⟨ho, gs, gf, hA, sgs, hgs, cs, cf, hc, fv, lA, lc, h, hF⟩ := h
  have HT := hide (@ticked_same D)
  have HO := hide ho.ticked
  have h3 : w.cell? ⟨r, 3, none⟩ = some (.int .i64 fv) := h.blk.cell 3
  have h5 : w.cell? ⟨r, 5, none⟩ = some (.int .i64 D.acts) := h.blk.cell 5
  have h4 : w.cell? ⟨r, 4, none⟩ = some (.bool D.off) := h.blk.cell 4
  have f3 := h.blk.frozen 3
  have f4 := h.blk.frozen 4
  have f5 := h.blk.frozen 5
  have hlo := h.lo
  have hhi := h.hi
  have H := hide h
  have HF := hide hF
  clear h hF ho
  have fin : ∀ (fv' : Int) (o' : Bool) (w' : World), Kept [r] w w' → Blk w' r 55 #[.slice (some ⟨gs, 0, none⟩) D.n cs, .slice hA D.held.length hc, .slice (some ⟨gf, 0, none⟩) D.n cf, .int .i64 fv', .bool o', .int .i64 ((D.acts : Int) + 1), .slice lA 0 lc] →
      o' = D.ticked.off → -1 ≤ fv' → fv' < 9223372036854775808 → (D.ticked.off = false → fv' = D.ticked.fuse) → RD w' F r D.ticked ∧ Kept [r] w w' := by
    intro fv' o' w' hk hb ho' hl hh hf
    subst ho'
    obtain ⟨e1, e2, e3, e4⟩ := HT.out
    exact ⟨⟨HO.out, gs, gf, hA, sgs, hgs, cs, cf, hc, fv', lA, lc, H.out.restruct hk e1 e2 e3 (by rw [e4]; exact hb) hl hh hf, HF.out⟩, hk⟩
  have HFin := hide fin
  clear fin
  obtain ⟨o, hoff⟩ : ∃ o, D.off = o := ⟨_, rfl⟩
  rw [hoff] at h4
  have E := hide hoff
  clear hoff
  cases o
  · have hfu := H.out.fuse E.out
    rcases Int.lt_trichotomy fv 0 with hl | hl | hl
    · have e1 : Hid (D.tick = true) := hide (by unfold Dk.tick; rw [E.out, ← hfu]; simp; omega)
      have e2 : Hid (D.ticked = { D with acts := D.acts + 1, fuse := if 0 < D.fuse then D.fuse - 1 else D.fuse }) := hide (by unfold Dk.ticked; rw [e1.out]; rfl)
      have HFU := hide hfu
      clear hfu
      go_enter Try.func36, Try.ntmps36
      go_wp2
      go_ret
      refine ⟨congrArg (fun q => Ending.returned (.bool q)) e1.out.symm, HFin.out fv false _ ((Kept.refl _ _).set_ (.inl (by simp)) _ _) (by have := H.out.blk.set_ 5 (.int .i64 ((D.acts : Int) + 1)); rw [E.out] at this; simpa using this) (by rw [e2.out]; exact E.out.symm) hlo hhi ?_⟩
      intro _
      rw [e2.out]
      show fv = if 0 < D.fuse then D.fuse - 1 else D.fuse
      have := HFU.out
      rw [if_neg (by omega)]
      omega
    · subst hl
      have e1 : Hid (D.tick = false) := hide (by unfold Dk.tick; rw [← hfu]; simp)
      have e2 : Hid (D.ticked.off = true) := hide (by unfold Dk.ticked; rw [e1.out]; rfl)
      clear hfu
      go_enter Try.func36, Try.ntmps36
      go_wp2
      go_ret
      refine ⟨congrArg (fun q => Ending.returned (.bool q)) e1.out.symm, HFin.out 0 true _ (((Kept.refl _ _).set_ (.inl (by simp)) _ _).set_ (.inl (by simp)) _ _) (by have := (H.out.blk.set_ 5 (.int .i64 ((D.acts : Int) + 1))).set_ 4 (.bool true); simpa using this) e2.out.symm hlo hhi ?_⟩
      intro hq
      rw [e2.out] at hq
      cases hq
    · have e1 : Hid (D.tick = true) := hide (by unfold Dk.tick; rw [E.out, ← hfu]; simp; omega)
      have e2 : Hid (D.ticked = { D with acts := D.acts + 1, fuse := if 0 < D.fuse then D.fuse - 1 else D.fuse }) := hide (by unfold Dk.ticked; rw [e1.out]; rfl)
      have HFU := hide hfu
      clear hfu
      go_enter Try.func36, Try.ntmps36
      go_wp2
      go_ret
      refine ⟨congrArg (fun q => Ending.returned (.bool q)) e1.out.symm, HFin.out (fv - 1) false _ (((Kept.refl _ _).set_ (.inl (by simp)) _ _).set_ (.inl (by simp)) _ _) (by have := (H.out.blk.set_ 5 (.int .i64 ((D.acts : Int) + 1))).set_ 3 (.int .i64 (fv - 1)); rw [E.out] at this; simpa using this) (by rw [e2.out]; exact E.out.symm) (by omega) (by omega) ?_⟩
      intro _
      rw [e2.out]
      show fv - 1 = if 0 < D.fuse then D.fuse - 1 else D.fuse
      have := HFU.out
      rw [if_pos (by omega)]
      omega
  · have e1 : Hid (D.tick = false) := hide (by unfold Dk.tick; rw [E.out]; rfl)
    have e2 : Hid (D.ticked.off = true) := hide (by unfold Dk.ticked; rw [e1.out]; rfl)
    go_enter Try.func36, Try.ntmps36
    go_wp2
    go_ret
    refine ⟨congrArg (fun q => Ending.returned (.bool q)) e1.out.symm, HFin.out fv true _ (((Kept.refl _ _).set_ (.inl (by simp)) _ _).set_ (.inl (by simp)) _ _) (by have := (H.out.blk.set_ 5 (.int .i64 ((D.acts : Int) + 1))).set_ 4 (.bool true); simpa using this) e2.out.symm hlo hhi ?_⟩
    intro hq
    rw [e2.out] at hq
    cases hq

set_option maxRecDepth 100000 in
theorem rfuse_at (r : Nat) (F : List Nat) (D : Dk) (n : Int) (w : World) (h : RD w F r D) (hn : n < 9223372036854775808) : Calls Try.prog 21 #[.pointer (some ⟨r, 0, none⟩), .int .i64 n] w fun e w' => e = .returned (.tuple #[]) ∧ RD w' F r (D.fused n) ∧ Kept [r] w w' := by
  obtain ⟨ho, gs, gf, hA, sgs, hgs, cs, cf, hc, fv, lA, lc, h, hF⟩ := h
  have h3 : w.cell? ⟨r, 3, none⟩ = some (.int .i64 fv) := h.blk.cell 3
  have f3 := h.blk.frozen 3
  have H := hide h
  have HF := hide hF
  have HO := hide (ho.fused n)
  clear h hF ho
  have fin : ∀ q : Int, (q = if n < 0 then -1 else n) → ∀ w', Kept [r] w w' → Blk w' r 55 #[.slice (some ⟨gs, 0, none⟩) D.n cs, .slice hA D.held.length hc, .slice (some ⟨gf, 0, none⟩) D.n cf, .int .i64 q, .bool D.off, .int .i64 D.acts, .slice lA 0 lc] → RD w' F r (D.fused n) ∧ Kept [r] w w' := by
    intro q hq w' hk hb
    refine ⟨⟨HO.out, gs, gf, hA, sgs, hgs, cs, cf, hc, q, lA, lc, H.out.restruct hk rfl rfl rfl hb ?_ ?_ (fun _ => hq), HF.out⟩, hk⟩
    · rw [hq]; split <;> omega
    · rw [hq]; split <;> omega
  have HFin := hide fin
  clear fin
  by_cases hx : n < 0
  · go_enter Try.func21, Try.ntmps21
    go_wp2
    go_end0
    exact ⟨rfl, HFin.out (-1) (by rw [if_pos hx]) _ (((Kept.refl _ _).set_ (.inl (by simp)) _ _).set_ (.inl (by simp)) _ _) (by have := (H.out.blk.set_ 3 (.int .i64 n)).set_ 3 (.int .i64 (-1)); simpa using this)⟩
  · go_enter Try.func21, Try.ntmps21
    go_wp2
    go_end0
    exact ⟨rfl, HFin.out n (by rw [if_neg (by omega)]) _ ((Kept.refl _ _).set_ (.inl (by simp)) _ _) (by have := H.out.blk.set_ 3 (.int .i64 n); simpa using this)⟩

theorem within_has (D : Dk) (x : Int) (m : Int) (hm : m = (D.n : Int) - 1) (w : World) :
    Calls Try.prog 33 #[.int .i64 x, .int .i64 0, .int .i64 m] w fun e w' => e = .returned (.bool (D.has x)) ∧ w = w' := by
  refine (within_any x 0 m w).mono fun e w' ⟨he, hw⟩ => ⟨by rw [he]; congr 2; rw [hm]; unfold Dk.has; rw [Bool.eq_iff_iff]; simp; omega, hw⟩

theorem rfault_at (r : Nat) (F : List Nat) (D : Dk) (x : Int) (o : Bool) (w : World) (h : RD w F r D) : Calls Try.prog 23 #[.pointer (some ⟨r, 0, none⟩), .int .i64 x, .bool o] w fun e w' =>
    e = .returned (.int .i64 (D.faulted x o).1) ∧ RD w' F r (D.faulted x o).2 ∧ Kept F w w' := by
  have H := hide h
  obtain ⟨ho, gs, gf, hA, sgs, hgs, cs, cf, hc, fv, lA, lc, h, hF⟩ := h
  have c0 : w.cell? ⟨r, 0, none⟩ = some (.slice (some ⟨gs, 0, none⟩) D.n cs) := h.blk.cell 0
  have c2 : w.cell? ⟨r, 2, none⟩ = some (.slice (some ⟨gf, 0, none⟩) D.n cf) := h.blk.cell 2
  have hn1 := ho.n1
  have hn2 := ho.n2
  have h0 := hide h
  have HF := hide hF
  obtain ⟨q, hq⟩ : ∃ q, D.has x = q := ⟨_, rfl⟩
  cases q
  · have e : D.faulted x o = (1, D) := by simp [Dk.faulted, hq]
    rw [e]
    have HQ := hide hq
    clear e hq h hF ho
    go_enter Try.func23, Try.ntmps23
    go_wp2_with fail
    refine (within_has D x _ (by rfl) _).mono ?_
    rintro e w' ⟨rfl, rfl⟩
    rw [HQ.out]
    go_wp2
    go_ret
    exact ⟨rfl, H.out, Kept.refl _ _⟩
  · have e : D.faulted x o = (0, { D with faults := D.faults.set x.toNat o }) := by simp [Dk.faulted, hq]
    rw [e]
    have HQ := hide hq
    obtain ⟨i, rfl, hi⟩ := has_nat hq
    rw [Int.toNat_natCast]
    have c1 := h.faults.cell (fault_cell D.faults i hi)
    have f1 := h.faults.frozen i
    have HO := hide (ho.faulted i o)
    clear e hq h hF ho
    go_enter Try.func23, Try.ntmps23
    go_wp2_with fail
    refine (within_has D i _ (by rfl) _).mono ?_
    rintro e w' ⟨rfl, rfl⟩
    rw [HQ.out]
    go_wp2
    go_ret
    have hv := h0.out
    have k : Kept [gf] w (w.setCell ⟨gf, i, none⟩ (.bool o)) := (Kept.refl _ _).set_ (.inl (by simp)) _ _
    have hne : ∀ {g t vs}, Row w g t vs → t ≠ 4 → g ∉ [gf] := fun {g t vs} hr ht hm => by
      simp at hm
      subst hm
      exact Row.ne_ hr hv.faults ht rfl
    have en : Dk.n { D with faults := D.faults.set i o } = D.n := by simp [Dk.n]
    refine ⟨rfl, ⟨HO.out, gs, gf, hA, sgs, hgs, cs, cf, hc, fv, lA, lc, ⟨?_, hv.srow.kept k (hne hv.srow (by decide)), by rw [en]; exact hv.slen, fun j g hg => (hv.safe j g hg).kept k (hne (hv.safe j g hg) (by decide)), own_kept hv.hrow k (fun g hg => ?_), hv.hlen, fun j g y hg hy => (hv.hdat j g y hg hy).kept k (hne (hv.hdat j g y hg hy) (by decide)), ?_, hv.lo, hv.hi, hv.fuse, by rw [en]; exact hv.cs1, by rw [en]; exact hv.cf1, hv.lnil⟩, HF.out⟩, k.mono (fun j hj => .inl (by rw [HF.out]; simp at hj; simp [rfeet, hj]))⟩
    · rw [en]
      exact k.blk hv.blk (hne (Row.of_blk hv.blk) (by decide))
    · obtain ⟨_, cur, hcur⟩ := own_lt hv.hrow hg
      exact hne (Row.of_blk hcur) (by decide)
    · have := hv.faults.set_ i (.bool o)
      rw [← List.map_set] at this
      exact this
end Go.Proofs.Yteobkgajebbpaaa.disk
