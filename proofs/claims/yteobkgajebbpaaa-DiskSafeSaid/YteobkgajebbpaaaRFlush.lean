/- The reference's Flush. -/
import Derived.Test.YteobkgajebbpaaaRWrite
import Derived.StillTailTactics
namespace Go.Proofs.Yteobkgajebbpaaa.disk
open Go.RowKit Go.Proofs.Yteobkgajebbpaaa.mem Go.Proofs.Yteobkgajebbpaaa.base

theorem rflush_off (r : Nat) (F : List Nat) (D : Dk) (w : World) (h : RD w F r D) (hb : D.acts < 1000000) (ht : D.tick = false) :
    Calls Try.prog 16 #[.pointer (some ⟨r, 0, none⟩)] w fun e w' => e = .returned (.int .i64 3) ∧ RTurned w w' F r D.ticked := by
  have H := hide h
  have HT := hide ht
  have HM := hide h.mem
  clear h ht
  go_enter Try.func16, Try.ntmps16
  go_wp2_with fail
  refine (ract_at r F D _ H.out hb).mono ?_
  rintro e w1 ⟨rfl, hd, hk⟩
  rw [HT.out]
  go_wp2
  go_ret
  exact ⟨rfl, RTurned.of_kept hd hk (fun z hz => by simp at hz; subst hz; exact HM.out)⟩

/-- Within the loop: so many of the held writes are safe. -/
structure RHalf (w : World) (r : Nat) (T : Dk) (gs gf : Nat) (hA : Option Addr) (hgs : List Nat) (cs cf hc : Nat) (fv : Int) (lA : Option Addr) (lc k : Nat) (sgs : List Nat) : Prop where
  blk : Blk w r 55 #[.slice (some ⟨gs, 0, none⟩) T.n cs, .slice hA T.held.length hc, .slice (some ⟨gf, 0, none⟩) T.n cf, .int .i64 fv, .bool T.off, .int .i64 T.acts, .slice lA 0 lc]
  srow : Row w gs 34 (sgs.map sl)
  slen : sgs.length = T.n
  safe : ∀ (i g : Nat), sgs[i]? = some g → Row w g 5 ((sec (layH T.safe (T.held.take k)) i).map B)
  hrow : w.ownsRow 0 78 2 (.slice hA T.held.length hc) T.held.length (hcells T.held hgs)
  hlen : hgs.length = T.held.length
  hdat : ∀ (i g : Nat) (x : Nat × List UInt8), hgs[i]? = some g → T.held[i]? = some x → Row w g 5 (x.2.map B)
  faults : Row w gf 4 (T.faults.map Value.bool)

theorem rhalf_step {w : World} {r gs gf cs cf hc lc k a g1 : Nat} {T : Dk} {hA lA : Option Addr} {sgs hgs : List Nat} {fv : Int} {bs : List UInt8} (ho : T.ok) (h : RHalf w r T gs gf hA hgs cs cf hc fv lA lc k sgs) (hk : k < T.held.length) (hx : T.held[k] = (a, bs)) (hg1 : hgs[k]? = some g1) :
    RHalf (w.drew.setCell ⟨gs, a, none⟩ (sl g1)) r T gs gf hA hgs cs cf hc fv lA lc (k + 1) (sgs.set a g1) ∧ Kept [gs] w (w.drew.setCell ⟨gs, a, none⟩ (sl g1)) := by
  have k5 : Kept [gs] w (w.drew.setCell ⟨gs, a, none⟩ (sl g1)) := ((Kept.refl [gs] w).drew).set_ (.inl (by simp)) _ _
  have hm := ho.held _ (List.getElem_mem hk)
  rw [hx] at hm
  have hSl : (layH T.safe (T.held.take k)).length = 64 * T.n := layH_length _ _ _ ho.safe (fun x hx => ho.held x (List.mem_of_mem_take hx))
  have hne : ∀ {y t vs}, Row w y t vs → t ≠ 34 → y ∉ [gs] := fun {y t vs} hy ht hmm => by
    simp at hmm
    subst hmm
    exact Row.ne_ hy h.srow ht rfl
  refine ⟨⟨k5.blk h.blk (hne (Row.of_blk h.blk) (by decide)), ?_, by simpa using h.slen, ?_, own_kept h.hrow k5 (fun g hg => ?_), h.hlen, fun j y x hy hx => (h.hdat j y x hy hx).kept k5 (hne (h.hdat j y x hy hx) (by decide)), h.faults.kept k5 (hne h.faults (by decide))⟩, k5⟩
  · have := h.srow.drew.set_ a (sl g1)
    rw [← List.map_set] at this
    exact this
  · intro j y hy
    rw [List.getElem?_set] at hy
    rw [layH_take _ _ _ hk, hx]
    split at hy
    · rename_i e
      subst e
      split at hy
      · injection hy with hy
        subst hy
        rw [sec_one T.n a _ bs hSl hm.1 hm.2]
        have := h.hdat k g1 (a, bs) hg1 (by rw [List.getElem?_eq_getElem hk, hx])
        exact this.kept k5 (hne this (by decide))
      · cases hy
    · rename_i e
      rw [sec_lay_other _ a j T.n _ hSl hm.1 (by rw [hm.2]; exact Nat.le_refl _) e]
      have := h.safe j y hy
      exact this.kept k5 (hne this (by decide))
  · obtain ⟨_, cur, hcur⟩ := own_lt h.hrow hg
    exact hne (Row.of_blk hcur) (by decide)

theorem rhalf_end {w w1 w2 : World} {r gs gf cs cf hc lc k : Nat} {T : Dk} {hA lA : Option Addr} {sgs0 sgs hgs : List Nat} {fv : Int} {F : List Nat} (hD : RDat w1 r T gs gf hA sgs0 hgs cs cf hc fv lA lc) (hF : F = rfeet r gs gf hA sgs0 hgs) (h : RHalf w2 r T gs gf hA hgs cs cf hc fv lA lc k sgs) (hk : k = T.held.length) (hsub : ∀ g ∈ sgs, g ∈ F)
    (k1 : Kept [r] w w1) (k2 : Kept [gs] w1 w2) (hok : Dk.ok { T with safe := T.now, held := [] }) : RTurned w (w2.setCell ⟨r, 1, none⟩ (.slice none 0 0)) F r { T with safe := T.now, held := [] } := by
  have k3 : Kept [r] w2 (w2.setCell ⟨r, 1, none⟩ (.slice none 0 0)) := (Kept.refl _ _).set_ (.inl (by simp)) _ _
  have hne : ∀ {y t vs}, Row w2 y t vs → t ≠ 55 → y ∉ [r] := fun {y t vs} hy ht hmm => by
    simp at hmm
    subst hmm
    exact Row.ne_ hy (Row.of_blk h.blk) ht rfl
  refine ⟨rfeet r gs gf none sgs [], ⟨hok, gs, gf, none, sgs, [], cs, cf, 0, fv, lA, lc, ⟨?_, h.srow.kept k3 (hne h.srow (by decide)), h.slen, ?_, ⟨by simp [hcells], .inl ⟨rfl, rfl⟩⟩, rfl, fun j y x hy => by simp at hy, h.faults.kept k3 (hne h.faults (by decide)), hD.lo, hD.hi, hD.fuse, hD.cs1, hD.cf1, hD.lnil⟩, rfl⟩, ?_, ?_⟩
  · have := h.blk.set_ 1 (.slice none 0 0)
    have h3 : Blk (w2.setCell ⟨r, 1, none⟩ (.slice none 0 0)) r 55 #[.slice (some ⟨gs, 0, none⟩) T.n cs, .slice none 0 0, .slice (some ⟨gf, 0, none⟩) T.n cf, .int .i64 fv, .bool T.off, .int .i64 T.acts, .slice lA 0 lc] := by simpa using this
    exact h3
  · intro j y hy
    have h4 := h.safe j y hy
    have h5 := h4.kept k3 (hne h4 (by decide))
    rw [hk, List.take_of_length_le (Nat.le_refl _)] at h5
    exact h5
  · intro x hx
    refine .inl ?_
    simp only [rfeet, Option.map_none, Option.toList_none, List.nil_append, List.append_nil, List.mem_cons] at hx
    rcases hx with rfl | rfl | rfl | hx
    · rw [hF]; simp [rfeet]
    · rw [hF]; simp [rfeet]
    · rw [hF]; simp [rfeet]
    · exact hsub x hx
  · have kf : ∀ x ∈ [r], x ∈ F ∨ w.heap.size ≤ x := fun x hx => .inl (by rw [hF]; simp at hx; simp [rfeet, hx])
    exact ((k1.mono kf).trans k2 (fun x hx => .inl (by rw [hF]; simp at hx; simp [rfeet, hx]))).trans k3 kf

set_option maxRecDepth 100000 in
set_option maxHeartbeats 1000000 in
theorem rflush_ok (r : Nat) (F : List Nat) (D : Dk) (w : World) (h : RD w F r D) (hb : D.acts < 1000000) (ht : D.tick = true) :
    Calls Try.prog 16 #[.pointer (some ⟨r, 0, none⟩)] w fun e w' => e = .returned (.int .i64 0) ∧ RTurned w w' F r { D.ticked with safe := D.ticked.now, held := [] } := by
  have H := hide h
  have HT := hide ht
  have HOK : Hid (Dk.ok { D.ticked with safe := D.ticked.now, held := [] }) := hide (by
    have h1 := h.1.flushed
    have e : D.ticked.now = D.now := by unfold Dk.now; rw [ticked_same.1, ticked_same.2.1]
    rw [e]
    exact h1)
  clear h ht
  go_enter Try.func16, Try.ntmps16
  go_wp2_with fail
  refine (ract_at r F D _ H.out hb).mono ?_
  rintro e w1 ⟨rfl, hd, hk⟩
  rw [HT.out]
  obtain ⟨ho, gs, gf, hA, sgs0, hgs, cs, cf, hc, fv, lA, lc, hD, hF⟩ := hd
  have hfew : D.ticked.held.length ≤ 1000001 := by
    have h1 := ho.few
    have h2 := (@ticked_same D).2.2.2
    omega
  have HD := hide hD
  have HO := hide ho
  have HF := hide hF
  have HK := hide hk
  have H0 : Hid (RHalf w1 r D.ticked gs gf hA hgs cs cf hc fv lA lc 0 sgs0) := hide ⟨hD.blk, hD.srow, hD.slen, hD.safe, hD.hrow, hD.hlen, hD.hdat, hD.faults⟩
  have HS0 : Hid (∀ g ∈ sgs0, g ∈ F) := hide (fun g hg => by rw [hF]; simp [rfeet, hg])
  have HHG : Hid (∀ g ∈ hgs, g ∈ F) := hide (fun g hg => by rw [hF]; simp [rfeet, hg])
  clear hD ho hF hk hb
  generalize hT : D.ticked = T at *
  have HTT := hide hT
  clear hT
  go_wp2
  go_loopw [3] (fun i wr => ∃ (k : Nat) (sgs : List Nat), k ≤ T.held.length ∧ i = .int .i64 k ∧ Hid (RHalf wr r T gs gf hA hgs cs cf hc fv lA lc k sgs) ∧ Hid (∀ g ∈ sgs, g ∈ F) ∧ Hid (Kept [gs] w1 wr)) (fun i wr => T.held.length - (intOf i).toNat)
  case atStart => exact ⟨0, sgs0, Nat.zero_le _, rfl, H0, HS0, hide (Kept.refl _ _)⟩
  case round =>
    obtain ⟨k, sgs, hk, rfl, HH, HS, HKR⟩ := hrel
    have c0 : wr.cell? ⟨r, 0, none⟩ = some (.slice (some ⟨gs, 0, none⟩) T.n cs) := HH.out.blk.cell 0
    have c1 : wr.cell? ⟨r, 1, none⟩ = some (.slice hA T.held.length hc) := HH.out.blk.cell 1
    by_cases hlt : k < T.held.length
    · obtain ⟨gh, rfl, hrow, hcl⟩ := own_addr HH.out.hrow (by omega)
      have hm := HO.out.held _ (List.getElem_mem hlt)
      obtain ⟨⟨a, bs⟩, hx⟩ : ∃ x : Nat × List UInt8, T.held[k] = x := ⟨_, rfl⟩
      rw [hx] at hm
      have hxs : T.held[k]? = some (a, bs) := by rw [List.getElem?_eq_getElem hlt, hx]
      obtain ⟨g1, hg1⟩ : ∃ g1, hgs[k]? = some g1 := ⟨_, List.getElem?_eq_getElem (by rw [HH.out.hlen]; exact hlt)⟩
      obtain ⟨m1, m2⟩ := hcells_at _ _ HH.out.hlen k _ _ hxs hg1
      have e1 := hrow.cell m1
      have e2 := hrow.cell m2
      unfold I at e1
      unfold sl at e2
      have ga1 : (0 : Int) ≤ a := by omega
      have ga2 : (a : Int) < T.n := by have : a < T.n := hm.1; omega
      obtain ⟨ga, hga⟩ : ∃ ga, sgs[a]? = some ga := ⟨_, List.getElem?_eq_getElem (by rw [HH.out.slen]; exact hm.1)⟩
      have d0 : wr.cell? ⟨gs, a, none⟩ = some (sl ga) := HH.out.srow.cell (by rw [List.getElem?_map, hga]; rfl)
      have f0 := HH.out.srow.frozen a
      unfold sl at d0
      have HST := hide (rhalf_step HO.out HH.out hlt hx hg1)
      have HGM : Hid (∀ g ∈ sgs.set a g1, g ∈ F) := hide (fun g hg => by
        rcases List.mem_or_eq_of_mem_set hg with h1 | h1
        · exact HS.out g h1
        · rw [h1]; exact HHG.out _ (getElem?_mem hg1))
      clear hrow hm hx hxs hg1 m1 m2 hga H0
      go_wp2
      go_still_tail 21, (by kernel_rfl)
      change wpList _ _ _ _ _ (World.drew wr)
      go_wp2
      exact ⟨⟨k + 1, sgs.set a g1, by omega, by go_num, hide HST.out.1, HGM, hide (HKR.out.trans HST.out.2 (fun x hx => .inl hx))⟩, by simp [intOf]; omega⟩
    · obtain rfl : k = T.held.length := by omega
      have f1 := HH.out.blk.frozen 1
      have HE := hide (rhalf_end HD.out HF.out HH.out rfl HS.out HK.out HKR.out HOK.out)
      clear H0
      go_wp2
      go_ret
      exact ⟨rfl, by rw [HTT.out]; exact HE.out⟩

theorem rflush_at (r : Nat) (F : List Nat) (D : Dk) (w : World) (h : RD w F r D) (hb : D.acts < 1000000) :
    Calls Try.prog 16 #[.pointer (some ⟨r, 0, none⟩)] w fun e w' => e = .returned (.int .i64 D.flush.1) ∧ RTurned w w' F r D.flush.2 := by
  cases ht : D.tick
  · have e1 : D.flush = (3, D.ticked) := by unfold Dk.flush; rw [ht]; rfl
    rw [e1]
    exact rflush_off r F D w h hb ht
  · have e : D.ticked.now = D.now := by unfold Dk.now; rw [ticked_same.1, ticked_same.2.1]
    have e1 : D.flush = (0, { D.ticked with safe := D.ticked.now, held := [] }) := by unfold Dk.flush; rw [ht, e]; rfl
    rw [e1]
    exact rflush_ok r F D w h hb ht
end Go.Proofs.Yteobkgajebbpaaa.disk
