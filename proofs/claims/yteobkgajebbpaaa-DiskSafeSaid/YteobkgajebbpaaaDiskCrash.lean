/- Crash. -/
import Derived.Test.YteobkgajebbpaaaDiskPick
import Derived.StillTailTactics
namespace Go.Proofs.Yteobkgajebbpaaa.disk
open Go.RowKit Go.Proofs.Yteobkgajebbpaaa.mem Go.Proofs.Yteobkgajebbpaaa.base

theorem crash_nil (v : Value) (w : World) : Calls Try.prog 24 #[.pointer none, v] w fun e w' => e = .returned (.pointer none) ∧ w = w' := by
  go_enter Try.func24, Try.ntmps24
  go_wp2
  go_ret
  exact ⟨rfl, rfl⟩

theorem crash_mem {wr : World} {gl a : Nat} {s : List UInt8} {bc cc : List Value} (hr : Row wr gl 70 (s.map B)) (hcc : Value.int .i64 (a : Int) :: bc = cc) (hbl : bc.length = 64) :
    (wr.alloc (.cells cc.toArray 72)).cell? ⟨wr.heap.size, 0, none⟩ = some (.int .i64 a) ∧ (loadVar 70 ⟨wr.heap.size, 1, none⟩).run Try.prog (wr.alloc (.cells cc.toArray 72)) = .ok (.agg bc.toArray) (wr.alloc (.cells cc.toArray 72)) ∧
      Row (wr.alloc (.cells cc.toArray 72)) gl 70 (s.map B) ∧ (∀ q, Vals (wr.alloc (.cells cc.toArray 72)).drew [] (some ⟨wr.heap.size, 1, none⟩) (bc.take q)) ∧ Kept [] wr (wr.alloc (.cells cc.toArray 72)) := by
  have r5 : Row (wr.alloc (.cells cc.toArray 72)) wr.heap.size 72 cc := by
    have := Row.of_blk (Blk.new wr 72 cc.toArray)
    simpa using this
  have c0 : cc[0]? = some (.int .i64 a) := by rw [← hcc]; rfl
  refine ⟨r5.cell c0, ?_, hr.alloc _, fun q => ?_, (Kept.refl [] wr).alloc _⟩
  · refine load_sec _ bc _ hbl (fun j v hv => ?_)
    rw [add_mk]
    exact r5.cell (by rw [← hcc, Nat.add_comm, List.getElem?_cons_succ]; exact hv)
  · have := r5.drew.vals (S := []) (by simp) 1 q
    have e : cc.drop 1 = bc := by rw [← hcc]; rfl
    rw [e] at this
    exact this

set_option linter.unusedSimpArgs false
set_option maxRecDepth 100000 in
set_option maxHeartbeats 4000000 in
theorem crash_at (p : Nat) (F : List Nat) (D : Dk) (A : Option Addr) (n c : Nat) (l : List Int) (w : World) (h : VD w F p D) (hb : D.acts ≤ 1000000) (hv : Vals w [] A (l.map I)) (hl : l.length = n) :
    Calls Try.prog 24 #[.pointer (some ⟨p, 0, none⟩), .slice A n c] w fun e w' => ∃ F' q, e = .returned (.pointer (some ⟨q, 0, none⟩)) ∧ VD w' F' q (D.crash l) ∧ (∀ x ∈ F', w.heap.size ≤ x) ∧ Kept [] w w' := by
  obtain ⟨ho, gs, gn, gf, hA, cs, cn, cf, hc, fv, hD, hF⟩ := h
  have c0 : w.cell? ⟨p, 0, none⟩ = some (.slice (some ⟨gs, 0, none⟩) D.n cs) := hD.blk.cell 0
  have c2 : w.cell? ⟨p, 2, none⟩ = some (.slice hA D.held.length hc) := hD.blk.cell 2
  have c3 : w.cell? ⟨p, 3, none⟩ = some (.slice (some ⟨gf, 0, none⟩) D.n cf) := hD.blk.cell 3
  have hfew : D.held.length ≤ 1000000 := by have := ho.few; omega
  have hn2 := ho.n2
  have HD := hide hD
  have HO := hide ho
  have HV := hide hv
  have HL := hide hl
  clear hD ho hF hb hv hl
  go_enter Try.func24, Try.ntmps24
  go_wp2_with fail
  refine (clone_secs ⟨gs, 0, none⟩ D.n cs D.safe _ (HD.out.safe.vals0 (by simp)) HO.out.safe hn2).mono ?_
  rintro e w1 ⟨gl, cl, rfl, hgl, hcl, hrl, hk1⟩
  have HRL := hide hrl
  have HK1 := hide hk1
  have c21 := hk1.cell c2 (by simp)
  clear hrl hk1 c0 c2
  go_wp2
  clear c21
  go_loopw [6, 22] (fun t i wr => ∃ k : Nat, k ≤ D.held.length ∧ i = .int .i64 k ∧ t = .bool (crashK D l k).2 ∧ Hid (Row wr gl 70 ((crashK D l k).1.map B)) ∧ Hid (Kept [] w wr)) (fun t i wr => D.held.length - (intOf i).toNat)
  case atStart => exact ⟨0, Nat.zero_le _, rfl, rfl, HRL, HK1⟩
  case round =>
    obtain ⟨k, hk, rfl, rfl, HR, HK⟩ := hrel
    by_cases hlt : k < D.held.length
    · obtain ⟨gh, rfl, hrow, hcl'⟩ := own_addr (own_kept HD.out.held HK.out (by simp)) (by omega)
      have hm := HO.out.held _ (List.getElem_mem hlt)
      obtain ⟨⟨a, bs⟩, hx⟩ : ∃ x : Nat × List UInt8, D.held[k] = x := ⟨_, rfl⟩
      rw [hx] at hm
      have hgd : D.held.getD k (0, []) = (a, bs) := by rw [List.getD_eq_getElem?_getD, List.getElem?_eq_getElem hlt, hx]; rfl
      have ga1 : (0 : Int) ≤ a := by omega
      have ga2 : (a : Int) < D.n := by have := hm.1; omega
      obtain ⟨bc, hbc⟩ : ∃ bc, bs.map B = bc := ⟨_, rfl⟩
      obtain ⟨cc, hcc⟩ : ∃ cc, Value.int .i64 (a : Int) :: bc = cc := ⟨_, rfl⟩
      have hbl : bc.length = 64 := by rw [← hbc, List.length_map]; exact hm.2
      have hccl : cc.length = 65 := by rw [← hcc, List.length_cons, hbl]
      have hall : ∀ x ∈ D.held, x.2.length = 64 := fun x hx => (HO.out.held x hx).2
      have hcut : ((heldCells D.held).drop (k * 65)).take cc.length = cc := by
        rw [hccl, Nat.mul_comm, heldCells_at _ hall k hlt, hx, ← hcc, ← hbc]
        rfl
      have HLD := hide (load_row 72 72 _ gh _ (k * 65) cc hrow hcut Try.underlying72 rfl (by rw [hccl]; exact write_size))
      have HZ := hide (show (Try.prog.info? 72).map (fun i => (i.zero.map fun z => z.cells.size, i.size)) = some (some 65, 65) from write_z)
      have HOC : Hid (∀ v ∈ cc, v.oneCell' = true) := hide (by rw [← hcc, ← hbc]; exact oneCell_write a bs)
      have HCL := hide hccl
      have HWS := hide (show (Try.prog.info? 72).map (·.size) = some cc.length by rw [hccl]; exact write_size)
      have HBL := hide hbl
      have HGD := hide hgd
      have HMM := hide hm
      obtain ⟨⟨s, b⟩, hsb⟩ : ∃ q : List UInt8 × Bool, crashK D l k = q := ⟨_, rfl⟩
      have hsl : s.length = 64 * D.n := by have := crashK_length HO.out l k hk; rw [hsb] at this; exact this
      rw [hsb] at HR
      rw [hsb]
      have HSB := hide hsb
      have HSL := hide hsl
      have HHC := hide hcc
      have HBC := hide hbc
      clear hm hall hrow hcut hccl hx hgd hbl hsb hsl hcc hbc
      go_wp2_with (first
        | (with_reducible refine wpList_value (o := ⟨some 26, _, _, _, _, _⟩) rfl (exec_load 72 (.tmp 25) rfl ⟨gh, k * 65, none⟩ ?_ HLD.out) ?_; (· go_simp); simp only [Act.put, List.setIfInBounds_toArray, List.set_cons_zero, List.set_cons_succ])
        | (with_reducible refine wpList_alloc_any (o := ⟨some 8, _, _, _, _, _⟩) rfl 72 rfl 65 HZ.out ?_; intro Z hZ; have HZZ := hide hZ; clear hZ; simp only [Act.put, List.setIfInBounds_toArray, List.set_cons_zero, List.set_cons_succ])
        | (with_reducible refine wpList_store_new (o := ⟨none, _, _, _, _, _⟩) rfl 72 (.tmp 8) (.tmp 26) rfl Z cc ?_ ?_ ?_ HWS.out HOC.out ?_; (· go_simp); (· go_simp); (· rw [HZZ.out, HCL.out]); simp only [Act.put, List.setIfInBounds_toArray, List.set_cons_zero, List.set_cons_succ]))
      obtain ⟨m1, m2, m3, m4, m5⟩ := crash_mem HR.out HHC.out HBL.out
      have M2 := hide m2
      have M3 := hide m3
      have M4 := hide m4
      have M5 := hide m5
      clear m2 m3 m4 m5 HZZ
      generalize wr.alloc (.cells cc.toArray 72) = w5 at *
      generalize wr.heap.size = g at *
      refine (pick_at A n c l k _ ((HV.out.kept HK.out (by simp)).kept M5.out (by simp)) HL.out).mono ?_
      rintro e w6 ⟨rfl, rfl⟩
      have hp := pickAt_lt l k
      have hnext : crashK D l (k + 1) = torn (s, b) (a, bs) (pickAt l k) := by
        show torn (crashK D l k) (D.held.getD k (0, [])) (pickAt l k) = _
        rw [HSB.out, HGD.out]
      have HNX := hide hnext
      clear hnext
      generalize pickAt l k = q at *
      have HK5 := hide (HK.out.trans M5.out (by simp))
      have hsz : (Try.prog.info? 70).map (·.size) = some bc.length := by rw [HBL.out]; exact sec_size
      have HSZ := hide hsz
      have HOB : Hid (∀ v ∈ bc, v.oneCell' = true) := hide (by rw [← HBC.out]; exact oneCell_B bs)
      clear hsz
      have HFIT : Hid (a * 64 + bc.length ≤ (s.map B).length) := hide (by rw [List.length_map, HBL.out, HSL.out]; have h1 : a < D.n := HMM.out.1; omega)
      by_cases hq1 : q % 3 = 1
      · have e1 : (q : Int).tmod 3 = 1 := by rw [Int.tmod_eq_emod_of_nonneg (by omega)]; omega
        have HT : Hid (torn (s, b) (a, bs) q = (lay s (a * 64) bs, b)) := hide (by unfold torn; rw [if_pos hq1, Nat.mul_comm])
        clear hq1
        go_wp2_with (first
          | (with_reducible refine wpList_value (o := ⟨some 38, _, _, _, _, _⟩) rfl (exec_load 70 (.tmp 37) rfl ⟨g, 1, none⟩ ?_ M2.out) ?_; (· go_simp); simp only [Act.put, List.setIfInBounds_toArray, List.set_cons_zero, List.set_cons_succ])
          | (with_reducible refine wpList_store_lay (o := ⟨none, _, _, _, _, _⟩) rfl 70 (.tmp 39) (.tmp 38) rfl gl (a * 64) bc ?_ ?_ 70 (s.map B) M3.out HFIT.out HSZ.out HOB.out ?_; (· go_simp); (· go_simp); intro w7 hk7 hr7; have K7 := hide hk7; have R7 := hide hr7; clear hk7 hr7; simp only [Act.put, List.setIfInBounds_toArray, List.set_cons_zero, List.set_cons_succ]))
        exact ⟨⟨k + 1, by omega, by go_num, by rw [HNX.out, HT.out], hide (by rw [HNX.out, HT.out, lay_map, HBC.out]; exact R7.out), hide (HK5.out.trans K7.out (fun x hx => .inr (by simp at hx; omega)))⟩, by simp [intOf]; omega⟩
      · by_cases hq2 : q % 3 = 2
        · have e1 : (q : Int).tmod 3 = 2 := by rw [Int.tmod_eq_emod_of_nonneg (by omega)]; omega
          cases b
          · obtain ⟨t, ht⟩ : ∃ t, q / 3 = t := ⟨_, rfl⟩
            have e2 : (q : Int).tdiv 3 = t := by rw [Int.tdiv_eq_ediv_of_nonneg (by omega)]; omega
            have e3 : (q : Int) / 3 = t := by omega
            have e4 : IntKind.i64.wrap (t : Int) = t := IntWalk.i64_in _ (by omega)
            have ht2 : t < 64 := by omega
            have HT : Hid (torn (s, false) (a, bs) q = (lay s (a * 64) (bs.take t), true)) := hide (by unfold torn; rw [if_neg hq1, if_pos hq2, Nat.mul_comm, ht]; rfl)
            clear hq1 hq2 ht
            have HBT : Hid ((bc.take t).length = t) := hide (by rw [List.length_take, HBL.out]; omega)
            have HBO : Hid (∀ v ∈ bc.take t, v.oneCell' = true) := hide (fun v hv => HOB.out v (List.mem_of_mem_take hv))
            have HMN : Hid ((bc.take t).length = Nat.min t 64) := hide (by rw [HBT.out]; exact (Nat.min_eq_left (by omega)).symm)
            have HFT : Hid (a * 64 + (bc.take t).length ≤ (s.map B).length) := hide (by have := HFIT.out; rw [HBT.out]; rw [HBL.out] at this; omega)
            have g1 : (0 : Int) ≤ t := by omega
            have g2 : (t : Int) ≤ 64 := by omega
            go_wp2
            go_still_tail 9, (by kernel_rfl)
            change wpList _ _ _ _ _ (World.drew w5)
            go_wp2_with (
              with_reducible refine wpList_copy_row (o := ⟨some 53, _, _, _, _, _⟩) ?_ (.tmp 48) (.tmp 52) 34 34 5 ?_ Try.underlying34 size8 (some ⟨gl, a * 64, none⟩) (some ⟨g, 1, none⟩) 64 64 t 64 ?_ ?_ (bc.take t) HMN.out (M4.out t) HBO.out gl (a * 64) 70 (s.map B) M3.out.drew (fun _ => rfl) HFT.out ?_
              · rfl
              · rfl
              · go_simp
              · go_simp
              intro w7 hk7 hr7
              have K7 := hide hk7
              have R7 := hide hr7
              clear hk7 hr7)
            exact ⟨⟨k + 1, by omega, by go_num, by rw [HNX.out, HT.out], hide (by rw [HNX.out, HT.out, lay_map, List.map_take, HBC.out]; exact R7.out), hide (HK5.out.drew.trans K7.out (fun x hx => .inr (by simp at hx; omega)))⟩, by simp [intOf]; omega⟩
          · have HT : Hid (torn (s, true) (a, bs) q = (s, true)) := hide (by unfold torn; rw [if_neg hq1, if_pos hq2]; rfl)
            clear hq1 hq2
            go_wp2
            exact ⟨⟨k + 1, by omega, by go_num, by rw [HNX.out, HT.out], hide (by rw [HNX.out, HT.out]; exact M3.out), HK5⟩, by simp [intOf]; omega⟩
        · have e1 : (q : Int).tmod 3 = 0 := by rw [Int.tmod_eq_emod_of_nonneg (by omega)]; omega
          have HT : Hid (torn (s, b) (a, bs) q = (s, b)) := hide (by unfold torn; rw [if_neg hq1, if_neg hq2])
          clear hq1 hq2
          go_wp2
          exact ⟨⟨k + 1, by omega, by go_num, by rw [HNX.out, HT.out], hide (by rw [HNX.out, HT.out]; exact M3.out), HK5⟩, by simp [intOf]; omega⟩
    · obtain rfl : k = D.held.length := by omega
      have c3r := HK.out.cell c3 (by simp)
      clear c3
      go_wp2_with fail
      refine (clone_bools ⟨gf, 0, none⟩ D.n cf D.faults _ ((HD.out.faults.kept HK.out (by simp)).vals0 (by simp)) rfl hn2).mono ?_
      rintro e w7 ⟨g7, cf7, rfl, hg7, hcf7, hrf7, hk7⟩
      have HR7 := hide (HR.out.kept hk7 (by simp))
      have HF7 := hide hrf7
      have HK7 := hide hk7
      clear hrf7 hk7
      go_wp2_with fail
      refine (made_at gl g7 cl cf7 D.n (crashK D l D.held.length).1 D.faults _ HR7.out HF7.out (crashK_length HO.out l _ (Nat.le_refl _)) rfl hn2 hcl hcf7).mono ?_
      rintro e w8 ⟨p8, gn8, cn8, rfl, hd8, hp8, hgn8, hk8⟩
      have hs1 := HK.out.size
      have hs2 := HK7.out.size
      obtain ⟨F8, hv8, hf8⟩ := vd_of_made (w := w) (n := D.n) hd8 (by omega) (by omega) (by omega) (by omega) (crashK_length HO.out l _ (Nat.le_refl _)) rfl HO.out.n1 hn2
      have HV8 := hide hv8
      have HF8 := hide hf8
      have HK8 := hide ((HK.out.trans HK7.out (by simp)).trans hk8 (by simp))
      clear hd8 hv8 hf8 hk8
      go_wp2
      go_ret
      exact ⟨F8, p8, rfl, HV8.out, HF8.out, HK8.out⟩
end Go.Proofs.Yteobkgajebbpaaa.disk
