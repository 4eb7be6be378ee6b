/- Flush. -/
import Derived.Test.YteobkgajebbpaaaDiskWrote
namespace Go.Proofs.Yteobkgajebbpaaa.disk
open Go.RowKit Go.Proofs.Yteobkgajebbpaaa.mem Go.Proofs.Yteobkgajebbpaaa.base

theorem flush_off (p : Nat) (F : List Nat) (D : Dk) (w : World) (h : VD w F p D) (hb : D.acts < 1000000) (ht : D.tick = false) :
    Calls Try.prog 15 #[.pointer (some ⟨p, 0, none⟩)] w fun e w' => e = .returned (.int .i64 3) ∧ Turned w w' F p D.ticked := by
  have H := hide h
  have HT := hide ht
  have HM := hide h.mem
  clear h ht
  go_enter Try.func15, Try.ntmps15
  go_wp2_with fail
  refine (act_at p F D _ H.out hb).mono ?_
  rintro e w1 ⟨rfl, hd, hk⟩
  rw [HT.out]
  go_wp2
  go_ret
  exact ⟨rfl, Turned.of_kept hd hk (fun z hz => by simp at hz; subst hz; exact HM.out)⟩

theorem own_addr {w : World} {e : TypeId} {size n m c : Nat} {A : Option Addr} {xs : List Value} (h : w.ownsRow 0 e size (.slice A m c) n xs) (hn : n ≠ 0) : ∃ g, A = some ⟨g, 0, none⟩ ∧ Row w g e xs ∧ n ≤ c := by
  obtain ⟨g, cap, hv, _, hc, hr⟩ := row_of_own h (by
    rcases h.2 with ⟨_, h2⟩ | ⟨g, cap, cur, hv, _⟩
    · exact absurd h2 hn
    · rw [hv]; simp [Value.ownBlock])
  simp only [Value.slice.injEq] at hv
  exact ⟨g, hv.1, hr, by omega⟩

/-- Within the loop: so many of the held writes are safe. -/
structure Half (w : World) (p : Nat) (T : Dk) (gs gn gf : Nat) (hA : Option Addr) (cs cn cf hc : Nat) (fv : Int) (k : Nat) : Prop where
  blk : Blk w p 75 #[.slice (some ⟨gs, 0, none⟩) T.n cs, .slice (some ⟨gn, 0, none⟩) T.n cn, .slice hA T.held.length hc, .slice (some ⟨gf, 0, none⟩) T.n cf, .int .i64 fv, .int .i64 T.acts, .bool T.off]
  safe : Row w gs 70 ((layH T.safe (T.held.take k)).map B)
  now : Row w gn 70 (T.now.map B)
  faults : Row w gf 4 (T.faults.map Value.bool)
  held : w.ownsRow 0 72 65 (.slice hA T.held.length hc) T.held.length (heldCells T.held)

theorem half_step {w : World} {p gs gn gf cs cn cf hc k : Nat} {T : Dk} {hA : Option Addr} {fv : Int} (ho : T.ok) (hsn : gs ≠ gn) (h : Half w p T gs gn gf hA cs cn cf hc fv k) (hk : k < T.held.length) {a : Nat} {bs : List UInt8} {bc cc : List Value} (hx : T.held[k] = (a, bs)) (hbc : bs.map B = bc) (hcc : Value.int .i64 (a : Int) :: bc = cc) :
    let w5 := w.alloc (.cells cc.toArray 72)
    let w6 := w5.drew.setCells gs (a * 64) bc
    (w5.cell? ⟨p, 0, none⟩ = some (.slice (some ⟨gs, 0, none⟩) T.n cs) ∧ w5.cell? ⟨w.heap.size, 0, none⟩ = some (.int .i64 a) ∧ w5.rangeAt w.heap.size 1 bc ∧ w5.there gs (a * 64) 64) ∧
      (w6.cell? ⟨p, 0, none⟩ = some (.slice (some ⟨gs, 0, none⟩) T.n cs) ∧ w6.cell? ⟨w.heap.size, 0, none⟩ = some (.int .i64 a) ∧ w6.rangeAt w.heap.size 1 bc ∧ w6.there gs (a * 64) 64) ∧
      Half w6 p T gs gn gf hA cs cn cf hc fv (k + 1) ∧ Kept [gs] w w6 := by
  intro w5 w6
  have hm := ho.held _ (List.getElem_mem hk)
  rw [hx] at hm
  have hbl : bc.length = 64 := by rw [← hbc, List.length_map]; exact hm.2
  have hai : a < T.n := hm.1
  have k5 : Kept [] w w5 := (Kept.refl [] w).alloc _
  have r5 : Row w5 w.heap.size 72 cc := by
    have := Row.of_blk (Blk.new w 72 cc.toArray)
    simpa using this
  have b5 := k5.blk h.blk (by simp)
  have s5 := h.safe.kept k5 (by simp)
  have n5 := h.now.kept k5 (by simp)
  have f5 := h.faults.kept k5 (by simp)
  have o5 := own_kept h.held k5 (by simp)
  have hsl : ((layH T.safe (T.held.take k)).map B).length = 64 * T.n := by
    rw [List.length_map]
    exact layH_length _ _ _ ho.safe (fun x hx => ho.held x (List.mem_of_mem_take hx))
  have k6 : Kept [gs] w5 w6 := kept_setCells gs bc (a * 64) w5 _ ((Kept.refl _ _).drew)
  have s6 := s5.drew.setCells (a * 64) bc (by rw [hsl]; omega)
  have hsp : gs ≠ p := Row.ne_ s5 (Row.of_blk b5) (by decide)
  have hsg : gs ≠ w.heap.size := by have := h.safe.lt; omega
  have hsf : gs ≠ gf := Row.ne_ s5 f5 (by decide)
  have b6 := k6.blk b5 (by simpa using Ne.symm hsp)
  have r6 := r5.kept k6 (by simpa using Ne.symm hsg)
  have c0 : cc[0]? = some (.int .i64 a) := by rw [← hcc]; rfl
  have rg : ∀ W, Row W w.heap.size 72 cc → W.rangeAt w.heap.size 1 bc := fun W hW => by
    have := hW.range 1 64
    rw [← hcc, List.drop_one, List.tail_cons, List.take_of_length_le (by omega)] at this
    exact this
  refine ⟨⟨b5.cell 0, r5.cell c0, rg _ r5, s5.there _ _ (by rw [hsl]; omega)⟩, ⟨b6.cell 0, r6.cell c0, rg _ r6, s6.there _ _ (by rw [lay_length _ _ _ (by rw [hsl]; omega), hsl]; omega)⟩, ⟨b6, ?_, n5.kept k6 (by simpa using Ne.symm hsn), f5.kept k6 (by simpa using Ne.symm hsf), own_kept o5 k6 (fun g hg hm => ?_)⟩, k5.mono (by simp) |>.trans k6 (by simp)⟩
  · rw [layH_take _ _ _ hk, lay_map, hx, hbc, Nat.mul_comm 64]
    exact s6
  · simp at hm
    subst hm
    rcases o5.2 with ⟨h2, _⟩ | ⟨g', cap, cur, hv, hb', hh', r⟩
    · injection h2 with h2
      subst h2
      cases hg
    · injection hv with hv
      subst hv
      injection hg with hg
      subst hg
      exact Row.ne_ (Row.of_blk (show Blk w5 g' 72 cur from hh')) s5 (by decide) rfl

theorem half_end {w w1 w2 : World} {p gs gn gf cs cn cf hc k : Nat} {T : Dk} {hA : Option Addr} {fv : Int} {F : List Nat} (hD : VDat w1 p T gs gn gf hA cs cn cf hc fv) (hF : F = feet p gs gn gf hA) (h : Half w2 p T gs gn gf hA cs cn cf hc fv k) (hk : k = T.held.length) (k1 : Kept [p] w w1) (k2 : Kept [gs] w1 w2)
    (hok : Dk.ok { T with safe := T.now, held := [] }) : Turned w (w2.setCell ⟨p, 2, none⟩ (.slice none 0 0)) F p { T with safe := T.now, held := [] } := by
  have k3 : Kept [p] w2 (w2.setCell ⟨p, 2, none⟩ (.slice none 0 0)) := (Kept.refl _ _).set_ (.inl (by simp)) _ _
  have hsp : gs ≠ p := Row.ne_ h.safe (Row.of_blk h.blk) (by decide)
  have hnp : gn ≠ p := Row.ne_ h.now (Row.of_blk h.blk) (by decide)
  have hfp : gf ≠ p := Row.ne_ h.faults (Row.of_blk h.blk) (by decide)
  refine ⟨feet p gs gn gf none, ⟨hok, gs, gn, gf, none, cs, cn, cf, 0, fv, ⟨?_, ?_, ?_, hD.ne, ?_, ⟨by simp [heldCells], .inl ⟨rfl, rfl⟩⟩, hD.lo, hD.hi, hD.fuse, hD.cs1, hD.cn1, hD.cf1⟩, rfl⟩, ?_, ?_⟩
  · have := h.blk.set_ 2 (.slice none 0 0)
    have h3 : Blk (w2.setCell ⟨p, 2, none⟩ (.slice none 0 0)) p 75 #[.slice (some ⟨gs, 0, none⟩) T.n cs, .slice (some ⟨gn, 0, none⟩) T.n cn, .slice none 0 0, .slice (some ⟨gf, 0, none⟩) T.n cf, .int .i64 fv, .int .i64 T.acts, .bool T.off] := by simpa using this
    exact h3
  · have := h.safe.kept k3 (by simpa using hsp)
    rw [hk, List.take_of_length_le (Nat.le_refl _)] at this
    exact this
  · exact h.now.kept k3 (by simpa using hnp)
  · exact h.faults.kept k3 (by simpa using hfp)
  · intro x hx
    refine .inl ?_
    rw [hF]
    simp only [feet, Option.map_none, Option.toList_none, List.mem_cons, List.not_mem_nil, or_false] at hx
    rcases hx with rfl | rfl | rfl | rfl <;> simp [feet]
  · have kf : ∀ x ∈ [p], x ∈ F ∨ w.heap.size ≤ x := fun x hx => .inl (by rw [hF]; simp at hx; simp [feet, hx])
    exact ((k1.mono kf).trans k2 (fun x hx => .inl (by rw [hF]; simp at hx; simp [feet, hx]))).trans k3 kf

set_option linter.unusedSimpArgs false
set_option maxRecDepth 100000 in
set_option maxHeartbeats 4000000 in
theorem flush_ok (p : Nat) (F : List Nat) (D : Dk) (w : World) (h : VD w F p D) (hb : D.acts < 1000000) (ht : D.tick = true) :
    Calls Try.prog 15 #[.pointer (some ⟨p, 0, none⟩)] w fun e w' => e = .returned (.int .i64 0) ∧ Turned w w' F p { D.ticked with safe := D.ticked.now, held := [] } := by
  have H := hide h
  have HT := hide ht
  have HM := hide h.mem
  have HOK : Hid (Dk.ok { D.ticked with safe := D.ticked.now, held := [] }) := hide (by
    have h1 := h.1.flushed
    have e : D.ticked.now = D.now := by unfold Dk.now; rw [ticked_same.1, ticked_same.2.1]
    rw [e]
    exact h1)
  clear h ht
  go_enter Try.func15, Try.ntmps15
  go_wp2_with fail
  refine (act_at p F D _ H.out hb).mono ?_
  rintro e w1 ⟨rfl, hd, hk⟩
  rw [HT.out]
  obtain ⟨ho, gs, gn, gf, hA, cs, cn, cf, hc, fv, hD, hF⟩ := hd
  have h2 : w1.cell? ⟨p, 2, none⟩ = some (.slice hA D.ticked.held.length hc) := hD.blk.cell 2
  have hfew : D.ticked.held.length ≤ 1000001 := by
    have h1 := ho.few
    have h2 := (@ticked_same D).2.2.2
    omega
  have HD := hide hD
  have HO := hide ho
  have HF := hide hF
  have HK := hide hk
  have H0 : Hid (Half w1 p D.ticked gs gn gf hA cs cn cf hc fv 0) := hide ⟨hD.blk, hD.safe, hD.now, hD.faults, hD.held⟩
  clear hD ho hF hk hb
  generalize hT : D.ticked = T at *
  have HTT := hide hT
  clear hT
  have hau := arr_under
  go_wp2
  go_loopw [15] (fun i wr => ∃ k : Nat, k ≤ T.held.length ∧ i = .int .i64 k ∧ Hid (Half wr p T gs gn gf hA cs cn cf hc fv k) ∧ Hid (Kept [gs] w1 wr)) (fun i wr => T.held.length - (intOf i).toNat)
  case atStart => exact ⟨0, Nat.zero_le _, rfl, H0, hide (Kept.refl _ _)⟩
  case round =>
    obtain ⟨k, hk, rfl, HH, HKR⟩ := hrel
    by_cases hlt : k < T.held.length
    · obtain ⟨gh, rfl, hrow, hcl⟩ := own_addr HH.out.held (by omega)
      have hm := HO.out.held _ (List.getElem_mem hlt)
      obtain ⟨⟨a, bs⟩, hx⟩ : ∃ x : Nat × List UInt8, T.held[k] = x := ⟨_, rfl⟩
      rw [hx] at hm
      have ga1 : (0 : Int) ≤ a := by omega
      have ga2 : (a : Int) < T.n := by have := hm.1; omega
      obtain ⟨bc, hbc⟩ : ∃ bc, bs.map B = bc := ⟨_, rfl⟩
      obtain ⟨cc, hcc⟩ : ∃ cc, Value.int .i64 (a : Int) :: bc = cc := ⟨_, rfl⟩
      have hbl : bc.length = 64 := by rw [← hbc, List.length_map]; exact hm.2
      have hccl : cc.length = 65 := by rw [← hcc, List.length_cons, hbl]
      have HCL := hide hccl
      have hall : ∀ x ∈ T.held, x.2.length = 64 := fun x hx => (HO.out.held x hx).2
      have hcut : ((heldCells T.held).drop (k * 65)).take cc.length = cc := by
        rw [hccl, Nat.mul_comm, heldCells_at _ hall k hlt, hx, ← hcc, ← hbc]
        rfl
      have HLD := hide (load_row 72 72 _ gh _ (k * 65) cc hrow hcut Try.underlying72 rfl (by rw [hccl]; exact write_size))
      have HZ := hide (show (Try.prog.info? 72).map (fun i => (i.zero.map fun z => z.cells.size, i.size)) = some (some cc.length, cc.length) by rw [hccl]; exact write_z)
      have HOC : Hid (∀ v ∈ cc, v.oneCell' = true) := hide (by rw [← hcc, ← hbc]; exact oneCell_write a bs)
      have hoc : ∀ v ∈ bc, v.oneCell' = true := by rw [← hbc]; exact oneCell_B bs
      have hsz : (Try.prog.info? 70).map (·.size) = some bc.length := by rw [hbl]; exact sec_size
      have HST := hide (half_step HO.out HD.out.ne HH.out hlt hx hbc hcc)
      clear hm hall hrow hcut hccl hx
      have HBC := hide hbc
      have HCC := hide hcc
      clear hbc hcc
      go_wp2_with (first
        | (with_reducible refine wpList_value (o := ⟨some 18, _, _, _, _, _⟩) rfl (exec_load 72 (.tmp 17) rfl ⟨gh, k * 65, none⟩ ?_ HLD.out) ?_; (· go_simp); simp only [Act.put, List.setIfInBounds_toArray, List.set_cons_zero, List.set_cons_succ])
        | (with_reducible refine wpList_alloc_store (o := ⟨some 4, _, _, _, _, _⟩) rfl rfl 72 (.tmp 4) (.tmp 18) rfl rfl cc HZ.out ?_ ?_ HOC.out ?_; (· intro v; go_simp); (· intro v; go_simp); simp only [Act.put, List.setIfInBounds_toArray, List.set_cons_zero, List.set_cons_succ]))
      obtain ⟨⟨s1, s2, s3, s4⟩, hs6, hfin, hkk⟩ := HST.out
      have HS6 := hide hs6
      have HFin := hide hfin
      have HKK := hide hkk
      clear hs6 hfin hkk HST HLD
      generalize wr.alloc (.cells cc.toArray 72) = w5 at *
      generalize wr.heap.size = g at *
      go_region_held3 (fun W => W.cell? ⟨p, 0, none⟩ = some (.slice (some ⟨gs, 0, none⟩) T.n cs) ∧ W.cell? ⟨g, 0, none⟩ = some (.int .i64 a) ∧ W.rangeAt g 1 bc ∧ W.there gs (a * 64) 64)
        (first | exact ⟨s1, s2, s3, s4⟩ | exact HS6.out) (fail)
      go_wp2
      go_roundw
      case rel => exact ⟨k + 1, by omega, by go_num, HFin, hide (HKR.out.trans HKK.out (fun x hx => .inl hx))⟩
      case measure => simp [intOf]; omega
    · obtain rfl : k = T.held.length := by omega
      have hcp : wr.cell? ⟨p, 2, none⟩ = some (.slice hA T.held.length hc) := HH.out.blk.cell 2
      have hfp := HH.out.blk.frozen 2
      have HE := hide (half_end HD.out HF.out HH.out rfl HK.out HKR.out HOK.out)
      go_wp2
      go_ret
      exact ⟨rfl, by rw [HTT.out]; exact HE.out⟩

theorem flush_at (p : Nat) (F : List Nat) (D : Dk) (w : World) (h : VD w F p D) (hb : D.acts < 1000000) :
    Calls Try.prog 15 #[.pointer (some ⟨p, 0, none⟩)] w fun e w' => e = .returned (.int .i64 D.flush.1) ∧ Turned w w' F p D.flush.2 := by
  cases ht : D.tick
  · have e1 : D.flush = (3, D.ticked) := by unfold Dk.flush; rw [ht]; rfl
    rw [e1]
    exact flush_off p F D w h hb ht
  · have e : D.ticked.now = D.now := by unfold Dk.now; rw [ticked_same.1, ticked_same.2.1]
    have e1 : D.flush = (0, { D.ticked with safe := D.ticked.now, held := [] }) := by unfold Dk.flush; rw [ht, e]; rfl
    rw [e1]
    exact flush_ok p F D w h hb ht
end Go.Proofs.Yteobkgajebbpaaa.disk
