/- Write. -/
import Derived.Test.YteobkgajebbpaaaDiskRuns
import Derived.StillTailTactics
namespace Go.Proofs.Yteobkgajebbpaaa.disk
open Go.RowKit Go.Proofs.Yteobkgajebbpaaa.mem Go.Proofs.Yteobkgajebbpaaa.base

theorem write_z : (Try.prog.info? 72).map (fun i => (i.zero.map fun z => z.cells.size, i.size)) = some (some 65, 65) := by kernel_rfl
def writeZero : Value := .agg ((madeCells #[.int .u8 0] 65).setIfInBounds 0 (.int .i64 0))
theorem info_wr : (Try.prog.info? 72).map (fun i => (i.zero, i.size, i.bytes)) = some (some writeZero, 65, 72) := by kernel_rfl
theorem writeZero_size : writeZero.cells.size = 65 := by kernel_rfl

theorem VDat.held_ne {w : World} {p gs gn gf cs cn cf hc : Nat} {D : Dk} {hA : Option Addr} {fv : Int} (h : VDat w p D gs gn gf hA cs cn cf hc fv) {g' : Nat} (hg : hA.map Addr.block = some g') : p ≠ g' ∧ gs ≠ g' ∧ gn ≠ g' ∧ gf ≠ g' := by
  rcases h.held.2 with ⟨h2, _⟩ | ⟨g, cap, cur, hv, hb', hh', r⟩
  · injection h2 with h2
    subst h2
    cases hg
  · injection hv with hv
    subst hv
    injection hg with hg
    subst hg
    have hr := Row.of_blk (show Blk w g 72 cur from hh')
    exact ⟨Row.ne_ (Row.of_blk h.blk) hr (by decide), Row.ne_ h.safe hr (by decide), Row.ne_ h.now hr (by decide), Row.ne_ h.faults hr (by decide)⟩

theorem own_some {w : World} {e : TypeId} {size n : Nat} {v : Value} {xs : List Value} (h : w.ownsRow 0 e size v n xs) (hn : n ≠ 0) : ∃ g c cur, v = .slice (some ⟨g, 0, none⟩) n c ∧ n ≤ c ∧ Blk w g e cur := by
  rcases h.2 with ⟨_, h2⟩ | ⟨g, cap, cur, hv, hb', hh', h1, r⟩
  · exact absurd h2 hn
  · exact ⟨g, cap, cur, hv, h1, hh'⟩

/-- A disk of the program's behind a call: its feet may have turned into new blocks. -/
def Turned (w w' : World) (F : List Nat) (p : Nat) (D' : Dk) : Prop := ∃ F', VD w' F' p D' ∧ (∀ x ∈ F', x ∈ F ∨ w.heap.size ≤ x) ∧ Kept F w w'

theorem wrote_at {w w2 w3 w4 : World} {p gs gn gf cs cn cf hc g4 c4 i g : Nat} {T : Dk} {hA : Option Addr} {fv : Int} {F : List Nat} {bs : List UInt8} {bc cc : List Value} (ho : T.ok) (hD : VDat w2 p T gs gn gf hA cs cn cf hc fv) (hF : F = feet p gs gn gf hA)
    (k2 : Kept [p] w w2) (k3 : Kept [] w2 w3) (k4 : Kept (Value.slice hA T.held.length hc).ownBlock.toList w3 w4) (hown : w4.ownsRow 0 72 65 (.slice (some ⟨g4, 0, none⟩) (T.held.length + 1) c4) (T.held.length + 1) (heldCells T.held ++ cc))
    (hat : (Value.slice (some ⟨g4, 0, none⟩) (T.held.length + 1) c4).ownBlock = (Value.slice hA T.held.length hc).ownBlock ∨ (Value.slice (some ⟨g4, 0, none⟩) (T.held.length + 1) c4).ownBlock = some w3.heap.size)
    (hcc : Value.int .i64 (i : Int) :: bc = cc) (hbc : bs.map B = bc) (hl : bc.length = 64) (hi : i < T.n) (hr : Row w2 g 72 cc) (hgf : ∀ x ∈ F, x < g) (hok : Dk.ok { T with held := T.held ++ [(i, bs)] }) :
    let w5 := w4.setCell ⟨p, 2, none⟩ (.slice (some ⟨g4, 0, none⟩) (T.held.length + 1) c4)
    (w5.cell? ⟨p, 1, none⟩ = some (.slice (some ⟨gn, 0, none⟩) T.n cn) ∧ w5.rangeAt g 1 bc ∧ w5.there gn (i * 64) 64) ∧ ((w5.drew.setCells gn (i * 64) bc).cell? ⟨p, 1, none⟩ = some (.slice (some ⟨gn, 0, none⟩) T.n cn) ∧ (w5.drew.setCells gn (i * 64) bc).rangeAt g 1 bc ∧ (w5.drew.setCells gn (i * 64) bc).there gn (i * 64) 64) ∧ Turned w (w5.drew.setCells gn (i * 64) bc) F p { T with held := T.held ++ [(i, bs)] } := by
  intro w5
  have d3 := hD.kept k3 (by simp)
  have ha : ∀ x, (∀ g', hA.map Addr.block = some g' → x ≠ g') → x ∉ (Value.slice hA T.held.length hc).ownBlock.toList := by
    intro x hx hm
    cases hA with
    | none => simp [Value.ownBlock] at hm
    | some ad' =>
      simp [Value.ownBlock] at hm
      exact hx _ rfl hm
  have hp4 := ha p (fun g' hg => (d3.held_ne hg).1)
  have hs4 := ha gs (fun g' hg => (d3.held_ne hg).2.1)
  have hn4 := ha gn (fun g' hg => (d3.held_ne hg).2.2.1)
  have hf4 := ha gf (fun g' hg => (d3.held_ne hg).2.2.2)
  have hg4 := ha g (fun g' hg e => by
    have := hgf g' (by rw [hF]; simp [feet, hg])
    omega)
  have b4 := k4.blk d3.blk hp4
  have s4 := d3.safe.kept k4 hs4
  have n4 := d3.now.kept k4 hn4
  have f4 := d3.faults.kept k4 hf4
  have r4 := (hr.kept k3 (by simp)).kept k4 hg4
  have b5 : Blk w5 p 75 #[.slice (some ⟨gs, 0, none⟩) T.n cs, .slice (some ⟨gn, 0, none⟩) T.n cn, .slice (some ⟨g4, 0, none⟩) (T.held.length + 1) c4, .slice (some ⟨gf, 0, none⟩) T.n cf, .int .i64 fv, .int .i64 T.acts, .bool T.off] := by
    have := b4.set_ 2 (.slice (some ⟨g4, 0, none⟩) (T.held.length + 1) c4)
    simpa using this
  have hgp : g ≠ p := Row.ne_ r4 (Row.of_blk b4) (by decide)
  have hsp : gs ≠ p := Row.ne_ s4 (Row.of_blk b4) (by decide)
  have hnp : gn ≠ p := Row.ne_ n4 (Row.of_blk b4) (by decide)
  have hfp : gf ≠ p := Row.ne_ f4 (Row.of_blk b4) (by decide)
  have hfn : gf ≠ gn := Row.ne_ f4 n4 (by decide)
  have k5 : Kept [p] w4 w5 := (Kept.refl _ _).set_ (.inl (by simp)) _ _
  have r5 := r4.kept k5 (by simpa using hgp)
  have s5 := s4.kept k5 (by simpa using hsp)
  have n5 := n4.kept k5 (by simpa using hnp)
  have f5 := f4.kept k5 (by simpa using hfp)
  have hcl : bc.length = 64 := hl
  have hnl : (T.now.map B).length = 64 * T.n := by rw [List.length_map]; exact ho.now
  have k6 : Kept [gn] w5 (w5.drew.setCells gn (i * 64) bc) := kept_setCells gn bc (i * 64) w5 _ ((Kept.refl _ _).drew)
  have n6 := n5.drew.setCells (i * 64) bc (by rw [hnl]; omega)
  have hgn : g ≠ gn := Row.ne_ r5 n5 (by decide)
  have r6 := r5.kept k6 (by simpa using hgn)
  have b6 := k6.blk b5 (by simpa using Ne.symm hnp)
  have rg : ∀ W, Row W g 72 cc → W.rangeAt g 1 bc := fun W hW => by
    have := hW.range 1 64
    rw [← hcc, List.drop_one, List.tail_cons, List.take_of_length_le (by omega)] at this
    exact this
  refine ⟨⟨b5.cell 1, rg _ r5, n5.there _ _ (by rw [hnl]; omega)⟩, ⟨b6.cell 1, rg _ r6, n6.there _ _ (by rw [lay_length _ _ _ (by rw [hnl]; omega), hnl]; omega)⟩, ?_⟩
  obtain ⟨g4', c4', cur4, hv4, _, hb4⟩ := own_some hown (by omega)
  injection hv4 with hv4 _ _
  injection hv4 with hv4
  injection hv4 with hv4
  subst hv4
  have hr4 := Row.of_blk hb4
  have h4p : g4 ≠ p := Row.ne_ hr4 (Row.of_blk b4) (by decide)
  have h4n : g4 ≠ gn := Row.ne_ hr4 n4 (by decide)
  have hsub : ∀ x ∈ feet p gs gn gf (some ⟨g4, 0, none⟩), x ∈ F ∨ w.heap.size ≤ x := by
    intro x hx
    simp only [feet, List.mem_cons, Option.map_some, Option.toList_some, List.not_mem_nil, or_false] at hx
    rcases hx with rfl | rfl | rfl | rfl | rfl
    · exact .inl (by rw [hF]; simp [feet])
    · exact .inl (by rw [hF]; simp [feet])
    · exact .inl (by rw [hF]; simp [feet])
    · exact .inl (by rw [hF]; simp [feet])
    · rcases hat with hat | hat
      · cases hA with
        | none => simp [Value.ownBlock] at hat
        | some ad' =>
          simp [Value.ownBlock] at hat
          exact .inl (by rw [hF]; simp [feet, hat])
      · simp [Value.ownBlock] at hat
        have h1 := k2.size
        have h2 := k3.size
        exact .inr (by omega)
  refine ⟨feet p gs gn gf (some ⟨g4, 0, none⟩), ⟨hok, gs, gn, gf, some ⟨g4, 0, none⟩, cs, cn, cf, c4, fv, ⟨?_, s5.kept k6 (by simpa using hD.ne), ?_, hD.ne, f5.kept k6 (by simpa using hfn), ?_, hD.lo, hD.hi, hD.fuse, hD.cs1, hD.cn1, hD.cf1⟩, rfl⟩, hsub, ?_⟩
  · have := b6
    show Blk _ _ _ #[_, _, .slice _ (T.held ++ [(i, bs)]).length _, _, _, _, _]
    rw [List.length_append, List.length_singleton]
    exact this
  · show Row _ _ _ ((layH T.safe (T.held ++ [(i, bs)])).map B)
    rw [layH_snoc, lay_map, hbc]
    show Row _ _ _ (lay (T.now.map B) (64 * i) bc)
    rw [Nat.mul_comm 64 i]
    exact n6
  · show World.ownsRow _ 0 _ 65 (.slice _ (T.held ++ [(i, bs)]).length _) (T.held ++ [(i, bs)]).length (heldCells (T.held ++ [(i, bs)]))
    rw [List.length_append, List.length_singleton, heldCells_snoc]
    have e : (I ((i, bs) : Nat × List UInt8).1 :: ((i, bs) : Nat × List UInt8).2.map B) = cc := by rw [← hcc, ← hbc]; rfl
    rw [e]
    exact own_kept (own_kept hown k5 (fun z hz hm => by simp at hz hm; omega)) k6 (fun z hz hm => by simp at hz hm; omega)
  · have kf : ∀ x ∈ [p], x ∈ F ∨ w.heap.size ≤ x := fun x hx => .inl (by rw [hF]; simp at hx; simp [feet, hx])
    have ka := (((k2.mono kf).trans k3 (by simp)).trans k4 (fun x hx => .inl (by
      rw [hF]
      cases hA with
      | none => simp [Value.ownBlock] at hx
      | some ad' =>
        simp [Value.ownBlock] at hx
        simp [feet, hx])))
    exact (ka.trans k5 kf).trans k6 (fun x hx => .inl (by rw [hF]; simp at hx; simp [feet, hx]))

set_option linter.unusedSimpArgs false
set_option maxRecDepth 100000 in
set_option maxHeartbeats 4000000 in
theorem write_ok (p : Nat) (F : List Nat) (D : Dk) (x : Int) (A : Option Addr) (c : Nat) (bs : List UInt8) (w : World) (h : VD w F p D) (hb : D.acts < 1000000) (hv : Vals w F A (bs.map B)) (hl : bs.length = 64) (hx : D.has x = true) (ht : D.tick = true) :
    Calls Try.prog 12 #[.pointer (some ⟨p, 0, none⟩), .int .i64 x, .slice A 64 c] w fun e w' =>
    e = .returned (.int .i64 0) ∧ Turned w w' F p { D.ticked with held := D.ticked.held ++ [(x.toNat, bs)] } := by
  have H := hide h
  have HQ := hide hx
  have HT := hide ht
  obtain ⟨i, rfl, hi⟩ := has_nat hx
  rw [Int.toNat_natCast]
  obtain ⟨ad, rfl, hz1, hz2⟩ := hv 0 (B bs[0]) (by rw [List.getElem?_map, List.getElem?_eq_getElem (by omega)]; rfl)
  have hat := array_at (some ad) c
  have HV := hide hv
  have HL : Hid ((bs.map B).length = 64) := hide (by simpa using hl)
  have HM := hide h.mem
  have HDK : Hid (Dk.ok { D.ticked with held := D.ticked.held ++ [(i, bs)] }) := hide (by
    have h1 := h.1.wrote (at_ := i) hx hl
    rw [Int.toNat_natCast] at h1
    rw [ticked_same.2.1]
    exact h1)
  have HCW := hide (show ∀ v ∈ (Value.int .i64 (i : Int) :: bs.map B), v.oneCell' = true from oneCell_write i bs)
  clear hz1 hz2 hv h hl hx ht
  generalize hbc : bs.map B = bc at HV HL HCW
  have HBC := hide hbc
  clear hbc
  have HCL : Hid ((Value.int .i64 i :: bc).length = 65) := hide (by rw [List.length_cons, HL.out])
  go_enter Try.func12, Try.ntmps12
  go_wp2_with fail
  refine (has_at p F D i _ H.out).mono ?_
  rintro e w' ⟨rfl, rfl⟩
  rw [HQ.out]
  go_wp2_with fail
  refine (act_at p F D _ H.out hb).mono ?_
  rintro e w1 ⟨rfl, hd, hk⟩
  rw [HT.out]
  have HD := hide hd
  have HK := hide hk
  have HV1 := hide (HV.out.kept HK.out (fun z hz => by simp at hz; subst hz; exact HM.out))
  clear hd hk
  have HLD := hide (load_sec ad bc w1 HL.out (fun j v hv => by
    obtain ⟨ad', h1, _, h3⟩ := HV1.out j v hv
    injection h1 with h1
    subst h1
    exact h3))
  have HBW := hide (build_write i bc w1 HL.out)
  have HZ := hide (show (Try.prog.info? 72).map (fun i => (i.zero.map fun z => z.cells.size, i.size)) = some (some (Value.int .i64 i :: bc).length, (Value.int .i64 i :: bc).length) by rw [HCL.out]; exact write_z)
  go_wp2_with (first
    | (with_reducible refine wpList_value (o := ⟨some 23, _, _, _, _, _⟩) rfl (exec_load 70 (.tmp 22) rfl ad rfl HLD.out) ?_; simp only [Act.put, List.setIfInBounds_toArray, List.set_cons_zero, List.set_cons_succ])
    | (with_reducible refine wpList_value (o := ⟨some 24, _, _, _, _, _⟩) rfl (exec_build2 72 (.tmp 20) (.tmp 23) rfl (.int .i64 i) (.agg bc.toArray) ?_ ?_ HBW.out) ?_; (· go_simp); (· go_simp); simp only [Act.put, List.setIfInBounds_toArray, List.set_cons_zero, List.set_cons_succ])
    | (with_reducible refine wpList_alloc_store (o := ⟨some 7, _, _, _, _, _⟩) rfl rfl 72 (.tmp 7) (.tmp 24) rfl rfl (Value.int .i64 i :: bc) HZ.out ?_ ?_ HCW.out ?_; (· intro v; go_simp); (· intro v; go_simp); simp only [Act.put, List.setIfInBounds_toArray, List.set_cons_zero, List.set_cons_succ]))
  obtain ⟨ho, gs, gn, gf, hA, cs, cn, cf, hc, fv, hD, hF⟩ := HD.out
  have HVD := hide hD
  have HF := hide hF
  have HOK := hide ho
  have R2 : Hid (Row (w1.alloc (.cells (Value.int .i64 (i : Int) :: bc).toArray 72)) w1.heap.size 72 (Value.int .i64 (i : Int) :: bc)) := hide (by have := Row.of_blk (Blk.new w1 72 (Value.int .i64 (i : Int) :: bc).toArray); simpa using this)
  have D2 := hide (hD.kept ((Kept.refl [] w1).alloc (.cells (Value.int .i64 (i : Int) :: bc).toArray 72)) (by simp))
  have K2 := hide (HK.out.alloc (.cells (Value.int .i64 (i : Int) :: bc).toArray 72))
  have hgl : w1.heap.size < (w1.alloc (.cells (Value.int .i64 (i : Int) :: bc).toArray 72)).heap.size := by simp
  have HGN : Hid (w.heap.size ≤ w1.heap.size) := hide HK.out.size
  have HGF : Hid (∀ x ∈ F, x < w1.heap.size) := hide HD.out.lt
  clear hD hF ho HLD HBW HZ HV1 HD HK hat
  generalize hw2 : w1.alloc (.cells (Value.int .i64 (i : Int) :: bc).toArray 72) = w2 at *
  clear hw2
  generalize w1.heap.size = g at *
  generalize hcc : (Value.int .i64 (i : Int) :: bc) = cc at *
  have HCC := hide hcc
  clear hcc
  have c2 : w2.cell? ⟨p, 2, none⟩ = some (.slice hA D.ticked.held.length hc) := D2.out.blk.cell 2
  have f2 := D2.out.blk.frozen 2
  refine wp_region_any (by kernel_rfl) ?_
  change wpAny _ _ _ _ _ _ _ (World.drew _)
  refine wpAny_take (i := 0) (v := Value.pointer (some ⟨p, 0, none⟩)) rfl (by kernel_rfl) (by kernel_rfl) (by kernel_rfl) (fun _ _ _ h => h) (Or.inl ⟨by rfl, ?_⟩) ?_
  · intro W
    go_simp
  simp only [Act.put, List.setIfInBounds_toArray, List.set_cons_zero, List.set_cons_succ]
  refine wpAny_take (i := 1) (v := Value.pointer (some ⟨p, 0, none⟩)) rfl (by kernel_rfl) (by kernel_rfl) (by kernel_rfl) (fun _ _ _ h => h) (Or.inl ⟨by rfl, ?_⟩) ?_
  · intro W
    go_simp
  simp only [Act.put, List.setIfInBounds_toArray, List.set_cons_zero, List.set_cons_succ]
  refine wpAny_take (i := 2) (v := Value.pointer (some ⟨p, 0, none⟩)) rfl (by kernel_rfl) (by kernel_rfl) (by kernel_rfl) (fun _ _ _ h => h) (Or.inl ⟨by rfl, ?_⟩) ?_
  · intro W
    go_simp
  simp only [Act.put, List.setIfInBounds_toArray, List.set_cons_zero, List.set_cons_succ]
  refine wpAny_take (i := 3) (v := Value.pointer (some ⟨p, 2, none⟩)) rfl (by kernel_rfl) (by kernel_rfl) (by kernel_rfl) (fun _ _ _ h => h) (Or.inl ⟨by rfl, ?_⟩) ?_
  · intro W
    go_simp
  simp only [Act.put, List.setIfInBounds_toArray, List.set_cons_zero, List.set_cons_succ]
  have hplt := D2.out.blk.lt
  have c2a : (w2.alloc (.cells cc.toArray 72)).drew.cell? ⟨p, 2, none⟩ = some (.slice hA D.ticked.held.length hc) := (D2.out.blk.alloc _).cell 2
  have O3 : Hid ((w2.alloc (.cells cc.toArray 72)).drew.ownsRow 0 72 65 (.slice hA D.ticked.held.length hc) D.ticked.held.length (heldCells D.ticked.held)) := hide (own_kept D2.out.held (((Kept.refl [] w2).alloc _).drew) (by simp))
  have V3 : Hid (Vals (w2.alloc (.cells cc.toArray 72)).drew [] (some ⟨w2.heap.size, 0, none⟩) cc) := hide (by
    have := Row.of_blk (Blk.new w2 72 cc.toArray)
    exact this.drew.vals0 (by simp))
  have D3 := hide (D2.out.kept (((Kept.refl [] w2).alloc (.cells cc.toArray 72)).drew) (by simp))
  have HI : Hid (i < D.ticked.n) := hide (by rw [ticked_n]; exact hi)
  have hfew : D.ticked.held.length ≤ 1000001 := by
    have h1 := HOK.out.few
    have h2 := (@ticked_same D).2.2.2
    omega
  refine wpAny_two (i := 4) (j := 5) (o := ⟨some 29, .load 73 (.tmp 28), _, _, _, none⟩) (o2 := ⟨some 30, .load 72 (.tmp 7), _, _, _, none⟩) (by kernel_rfl) rfl rfl (by rfl) (by rfl) (fun K hK => ?pa) (fun K hK => ?pb)
  case' pa =>
    go_simp
    refine hK _ _ ?_
    clear hK K
    refine wpAny_one (i := 5) (o := ⟨some 30, .load 72 (.tmp 7), _, _, _, none⟩) (by kernel_rfl) rfl (by rfl) (fun K hK => ?_)
    refine wp_value (exec_load 72 (.tmp 7) rfl ⟨g, 0, none⟩ (by go_simp) (load_row 72 72 _ g cc 0 cc R2.out.drew (by simp) Try.underlying72 rfl (by rw [HCL.out]; exact write_size))) ?_
    simp only [Act.put, List.setIfInBounds_toArray, List.set_cons_zero, List.set_cons_succ]
    refine hK _ _ ?_
    clear hK K
    refine wpAny_one (i := 6) (o := ⟨some 31, .buildSlice 73 1 #[(0, .tmp 30)], _, _, _, none⟩) (by kernel_rfl) rfl (by rfl) (fun K hK => ?_)
    refine wp_value (exec_buildSlice1 73 (.tmp 30) rfl (.agg cc.toArray) (by go_simp) (build_writes cc _ HCL.out)) ?_
    simp only [Act.put, List.setIfInBounds_toArray, List.set_cons_zero, List.set_cons_succ]
    refine hK _ _ ?_
    clear hK K
  case' pb =>
    refine wp_value (exec_load 72 (.tmp 7) rfl ⟨g, 0, none⟩ (by go_simp) (load_row 72 72 _ g cc 0 cc R2.out.drew (by simp) Try.underlying72 rfl (by rw [HCL.out]; exact write_size))) ?_
    simp only [Act.put, List.setIfInBounds_toArray, List.set_cons_zero, List.set_cons_succ]
    refine hK _ _ ?_
    clear hK K
    refine wpAny_two (i := 4) (j := 6) (o := ⟨some 29, .load 73 (.tmp 28), _, _, _, none⟩) (o2 := ⟨some 31, .buildSlice 73 1 #[(0, .tmp 30)], _, _, _, none⟩) (by kernel_rfl) rfl rfl (by rfl) (by rfl) (fun K hK => ?pc) (fun K hK => ?pd)
  case' pc =>
    go_simp
    refine hK _ _ ?_
    clear hK K
    refine wpAny_one (i := 6) (o := ⟨some 31, .buildSlice 73 1 #[(0, .tmp 30)], _, _, _, none⟩) (by kernel_rfl) rfl (by rfl) (fun K hK => ?_)
    refine wp_value (exec_buildSlice1 73 (.tmp 30) rfl (.agg cc.toArray) (by go_simp) (build_writes cc _ HCL.out)) ?_
    simp only [Act.put, List.setIfInBounds_toArray, List.set_cons_zero, List.set_cons_succ]
    refine hK _ _ ?_
    clear hK K
  case' pd =>
    refine wp_value (exec_buildSlice1 73 (.tmp 30) rfl (.agg cc.toArray) (by go_simp) (build_writes cc _ HCL.out)) ?_
    simp only [Act.put, List.setIfInBounds_toArray, List.set_cons_zero, List.set_cons_succ]
    refine hK _ _ ?_
    clear hK K
    refine wpAny_one (i := 4) (o := ⟨some 29, .load 73 (.tmp 28), _, _, _, none⟩) (by kernel_rfl) rfl (by rfl) (fun K hK => ?_)
    go_simp
    refine hK _ _ ?_
    clear hK K
  all_goals
    refine wpAny_one (i := 7) (o := ⟨some 32, .call { callee := .builtin .append, args := #[.tmp 29, .tmp 31], argTypes := #[73, 73] }, _, _, _, none⟩) (by kernel_rfl) rfl (by rfl) (fun K hK => ?_)
    refine wp_append_vals (.tmp 29) (.tmp 31) 73 rfl 0 72 writeZero 65 72 Try.underlying73 info_wr writeZero_size (by omega) (.slice hA D.ticked.held.length hc) D.ticked.held.length (heldCells D.ticked.held) (by go_simp) O3.out [] (some ⟨w2.heap.size, 0, none⟩) 1 1 cc (by go_simp) HCL.out V3.out HCW.out (by simp only [maxLen]; omega) (by omega) (Nat.zero_le _) ?_
    intro v4 w4 hown hk4 hat
    simp only [Act.put, List.setIfInBounds_toArray, List.set_cons_zero, List.set_cons_succ]
    refine hK _ _ ?_
    clear hK K
    obtain ⟨g4, c4, cur4, rfl, hc4, hb4⟩ := own_some hown (by omega)
    have HOW := hide hown
    have HK4 := hide hk4
    have HAT := hide hat
    have hpn : p ∉ (Value.slice hA D.ticked.held.length hc).ownBlock.toList := by
      intro hm
      cases hA with
      | none => simp [Value.ownBlock] at hm
      | some ad' =>
        simp [Value.ownBlock] at hm
        exact (D3.out.held_ne (g' := ad'.block) rfl).1 hm
    have HPN := hide hpn
    have B4 := hide (hk4.blk D3.out.blk hpn)
    have c24 : w4.cell? ⟨p, 2, none⟩ = some (.slice hA D.ticked.held.length hc) := B4.out.cell 2
    have f24 := B4.out.frozen 2
    clear hown hk4 hat hb4 hpn
    refine wpAny_one (i := 8) (o := ⟨some 33, .nilCheck (.tmp 25), _, _, _, none⟩) (by kernel_rfl) rfl (by rfl) (fun K hK => ?_)
    go_simp
    refine hK _ _ ?_
    clear hK K
    refine wpAny_one (i := 9) (o := ⟨some 34, .fieldAddr 75 (.tmp 33) 2, _, _, _, none⟩) (by kernel_rfl) rfl (by rfl) (fun K hK => ?_)
    go_simp
    refine hK _ _ ?_
    clear hK K
    refine wpAny_one (i := 10) (o := ⟨none, .store 73 (.tmp 34) (.tmp 32), _, _, _, none⟩) (by kernel_rfl) rfl (by rfl) (fun K hK => ?_)
    go_simp
    refine hK _ _ ?_
    clear hK K
    refine wpAny_done (by kernel_rfl) ?_ _
    go_wp2
    have HW := hide (wrote_at HOK.out D2.out HF.out K2.out (((Kept.refl [] w2).alloc (.cells cc.toArray 72)).drew) HK4.out HOW.out HAT.out HCC.out HBC.out HL.out HI.out R2.out HGF.out HDK.out)
    obtain ⟨⟨s1, s2, s3⟩, hs6, hfin⟩ := HW.out
    have HS6 := hide hs6
    have HFin := hide hfin
    clear hs6 hfin HW HOW HK4 HAT c24 f24 B4
    generalize w4.setCell ⟨p, 2, none⟩ (.slice (some ⟨g4, 0, none⟩) (D.ticked.held.length + 1) c4) = w5 at *
    have HBL := HL.out
    have hsz : (Try.prog.info? 70).map (·.size) = some bc.length := by rw [HBL]; exact sec_size
    have hoc : ∀ v ∈ bc, v.oneCell' = true := by rw [← HBC.out]; exact oneCell_B bs
    have hau := arr_under
    have gi1 : (0 : Int) ≤ i := by omega
    have gi2 : (i : Int) < D.ticked.n := by have := HI.out; omega
    go_region_held3 (fun W => W.cell? ⟨p, 1, none⟩ = some (.slice (some ⟨gn, 0, none⟩) D.ticked.n cn) ∧ W.rangeAt g 1 bc ∧ W.there gn (i * 64) 64)
      (first | exact ⟨s1, s2, s3⟩ | exact HS6.out) (fail)
    go_wp2
    go_ret
    exact ⟨rfl, HFin.out⟩
end Go.Proofs.Yteobkgajebbpaaa.disk
