/- The reference's Write and Flush. -/
import Derived.Test.YteobkgajebbpaaaRNew
import Derived.StillTailTactics
namespace Go.Proofs.Yteobkgajebbpaaa.disk
open Go.RowKit Go.Proofs.Yteobkgajebbpaaa.mem Go.Proofs.Yteobkgajebbpaaa.base

theorem rwrite_bad (r : Nat) (F : List Nat) (D : Dk) (x : Int) (A : Option Addr) (n c : Nat) (w : World) (h : RD w F r D) (hx : D.has x = false ∨ n ≠ 64) :
    Calls Try.prog 14 #[.pointer (some ⟨r, 0, none⟩), .int .i64 x, .slice A n c] w fun e w' => e = .returned (.int .i64 1) ∧ w = w' := by
  obtain ⟨ho, gs, gf, hA, sgs, hgs, cs, cf, hc, fv, lA, lc, h, hF⟩ := h
  have c0 : w.cell? ⟨r, 0, none⟩ = some (.slice (some ⟨gs, 0, none⟩) D.n cs) := h.blk.cell 0
  have hn1 := ho.n1
  have hn2 := ho.n2
  clear h hF ho
  obtain ⟨q, hq⟩ : ∃ q, D.has x = q := ⟨_, rfl⟩
  have HQ := hide hq
  rw [hq] at hx
  clear hq
  cases q
  · clear hx
    go_enter Try.func14, Try.ntmps14
    go_wp2_with fail
    refine (within_has D x _ (by rfl) _).mono ?_
    rintro e w' ⟨rfl, rfl⟩
    rw [HQ.out]
    go_wp2
    go_ret
    exact ⟨rfl, rfl⟩
  · have hn : (n : Int) ≠ 64 := by
      rcases hx with hx | hx
      · cases hx
      · omega
    clear hx
    go_enter Try.func14, Try.ntmps14
    go_wp2_with fail
    refine (within_has D x _ (by rfl) _).mono ?_
    rintro e w' ⟨rfl, rfl⟩
    rw [HQ.out]
    go_wp2
    go_ret
    exact ⟨rfl, rfl⟩

theorem rwrite_off (r : Nat) (F : List Nat) (D : Dk) (x : Int) (A : Option Addr) (c : Nat) (w : World) (h : RD w F r D) (hb : D.acts < 1000000) (hx : D.has x = true) (ht : D.tick = false) :
    Calls Try.prog 14 #[.pointer (some ⟨r, 0, none⟩), .int .i64 x, .slice A 64 c] w fun e w' => e = .returned (.int .i64 3) ∧ RTurned w w' F r D.ticked := by
  have H := hide h
  have HM := hide h.mem
  obtain ⟨ho, gs, gf, hA, sgs, hgs, cs, cf, hc, fv, lA, lc, h, hF⟩ := h
  have c0 : w.cell? ⟨r, 0, none⟩ = some (.slice (some ⟨gs, 0, none⟩) D.n cs) := h.blk.cell 0
  have hn1 := ho.n1
  have hn2 := ho.n2
  have HQ := hide hx
  have HT := hide ht
  clear h hF ho hx ht
  go_enter Try.func14, Try.ntmps14
  go_wp2_with fail
  refine (within_has D x _ (by rfl) _).mono ?_
  rintro e w' ⟨rfl, rfl⟩
  rw [HQ.out]
  go_wp2_with fail
  refine (ract_at r F D _ H.out hb).mono ?_
  rintro e w1 ⟨rfl, hd, hk⟩
  rw [HT.out]
  go_wp2
  go_ret
  exact ⟨rfl, RTurned.of_kept hd hk (fun z hz => by simp at hz; subst hz; exact HM.out)⟩

theorem held_info : (Try.prog.info? 78).map (fun i => (i.zero, i.size, i.bytes)) = some (some (.agg #[.int .i64 0, .slice none 0 0]), 2, 32) := by kernel_rfl
theorem oneCell_held (a : Int) (g : Nat) : ∀ u ∈ [Value.int .i64 a, sl g], u.oneCell' = true := by
  intro u hu
  simp only [List.mem_cons, List.not_mem_nil, or_false] at hu
  rcases hu with rfl | rfl <;> rfl

/-- The disk with one write more. -/
theorem rwrote_at {w w1 w2 w4 : World} {r gs gf cs cf hc lc i g g4 c4 : Nat} {T : Dk} {hA lA : Option Addr} {sgs hgs : List Nat} {fv : Int} {F : List Nat} {bs : List UInt8} (hD : RDat w1 r T gs gf hA sgs hgs cs cf hc fv lA lc) (hF : F = rfeet r gs gf hA sgs hgs)
    (k1 : Kept [r] w w1) (k2 : Kept [] w1 w2) (hg : w1.heap.size ≤ g) (hr : Row w2 g 5 (bs.map B))
    (k4 : Kept (Value.slice hA T.held.length hc).ownBlock.toList ((w2.alloc (.cells #[.int .i64 (i : Int), sl g] 78))) w4)
    (hown : w4.ownsRow 0 78 2 (.slice (some ⟨g4, 0, none⟩) (T.held.length + 1) c4) (T.held.length + 1) (hcells T.held hgs ++ [.int .i64 (i : Int), sl g]))
    (hat : (Value.slice (some ⟨g4, 0, none⟩) (T.held.length + 1) c4).ownBlock = (Value.slice hA T.held.length hc).ownBlock ∨ (Value.slice (some ⟨g4, 0, none⟩) (T.held.length + 1) c4).ownBlock = some (w2.heap.size + 1))
    (hok : Dk.ok { T with held := T.held ++ [(i, bs)] }) :
    (w4.cell? ⟨r, 1, none⟩ = some (.slice hA T.held.length hc) ∧ w4.frozen? ⟨r, 1, none⟩ = false) ∧ RTurned w (w4.setCell ⟨r, 1, none⟩ (.slice (some ⟨g4, 0, none⟩) (T.held.length + 1) c4)) F r { T with held := T.held ++ [(i, bs)] } := by
  have d2 := hD.kept (k2.alloc (.cells #[.int .i64 (i : Int), sl g] 78)) (by simp)
  have hty : ∀ {y t vs}, Row (w2.alloc (.cells #[.int .i64 (i : Int), sl g] 78)) y t vs → t ≠ 78 → y ∉ (Value.slice hA T.held.length hc).ownBlock.toList := fun {y t vs} hy ht hm => by
    cases hA with
    | none => simp [Value.ownBlock] at hm
    | some ad =>
      simp [Value.ownBlock] at hm
      obtain ⟨_, cur, hcur⟩ := own_lt d2.hrow (g := ad.block) rfl
      rw [← hm] at hcur
      exact Row.ne_ hy (Row.of_blk hcur) ht rfl
  have b4 := k4.blk d2.blk (hty (Row.of_blk d2.blk) (by decide))
  have k5 : Kept [r] w4 (w4.setCell ⟨r, 1, none⟩ (.slice (some ⟨g4, 0, none⟩) (T.held.length + 1) c4)) := (Kept.refl _ _).set_ (.inl (by simp)) _ _
  have all : ∀ {y t vs}, Row (w2.alloc (.cells #[.int .i64 (i : Int), sl g] 78)) y t vs → t ≠ 78 → t ≠ 55 → Row (w4.setCell ⟨r, 1, none⟩ (.slice (some ⟨g4, 0, none⟩) (T.held.length + 1) c4)) y t vs := fun {y t vs} hy ht ht2 => by
    have h4 := hy.kept k4 (hty hy ht)
    exact h4.kept k5 (by simp; exact Row.ne_ h4 (Row.of_blk b4) ht2)
  have hgr := all (hr.alloc (.cells #[.int .i64 (i : Int), sl g] 78)) (by decide) (by decide)
  have hs1 := k1.size
  have hs2 := k2.size
  have hfr : ∀ x ∈ [r], x ∈ F ∨ w.heap.size ≤ x := fun x hx => .inl (by rw [hF]; simp at hx; simp [rfeet, hx])
  refine ⟨⟨b4.cell 1, b4.frozen 1⟩, rfeet r gs gf (some ⟨g4, 0, none⟩) sgs (hgs ++ [g]), ⟨hok, gs, gf, some ⟨g4, 0, none⟩, sgs, hgs ++ [g], cs, cf, c4, fv, lA, lc, ⟨?_, all d2.srow (by decide) (by decide), hD.slen, fun j y hy => all (d2.safe j y hy) (by decide) (by decide), ?_, ?_, ?_, all d2.faults (by decide) (by decide), hD.lo, hD.hi, hD.fuse, hD.cs1, hD.cf1, hD.lnil⟩, rfl⟩, ?_, ?_⟩
  · have := b4.set_ 1 (.slice (some ⟨g4, 0, none⟩) (T.held.length + 1) c4)
    show Blk _ _ _ #[_, .slice _ (T.held ++ [(i, bs)]).length _, _, _, _, _, _]
    rw [List.length_append, List.length_singleton]
    have h3 : Blk (w4.setCell ⟨r, 1, none⟩ (.slice (some ⟨g4, 0, none⟩) (T.held.length + 1) c4)) r 55 #[.slice (some ⟨gs, 0, none⟩) T.n cs, .slice (some ⟨g4, 0, none⟩) (T.held.length + 1) c4, .slice (some ⟨gf, 0, none⟩) T.n cf, .int .i64 fv, .bool T.off, .int .i64 T.acts, .slice lA 0 lc] := by simpa using this
    exact h3
  · show World.ownsRow _ 0 _ 2 (.slice _ (T.held ++ [(i, bs)]).length _) (T.held ++ [(i, bs)]).length (hcells (T.held ++ [(i, bs)]) (hgs ++ [g]))
    rw [List.length_append, List.length_singleton, hcells_snoc _ _ hD.hlen]
    refine own_kept hown k5 (fun z hz => ?_)
    obtain ⟨_, cur, hcur⟩ := own_lt hown hz
    simp
    exact Row.ne_ (Row.of_blk hcur) (Row.of_blk b4) (by decide)
  · rw [List.length_append, List.length_singleton, hD.hlen]
    show _ = (T.held ++ [(i, bs)]).length
    rw [List.length_append]
    rfl
  · intro j y x hy hx
    rcases Nat.lt_or_ge j hgs.length with hj | hj
    · rw [List.getElem?_append_left hj] at hy
      have hx' : (T.held ++ [(i, bs)])[j]? = some x := hx
      rw [List.getElem?_append_left (by rw [← hD.hlen]; exact hj)] at hx'
      exact all (d2.hdat j y x hy hx') (by decide) (by decide)
    · have hj0 : j = hgs.length := by
        have := (List.getElem?_eq_some_iff.1 hy).1
        simp at this
        omega
      subst hj0
      have hx' : (T.held ++ [(i, bs)])[hgs.length]? = some x := hx
      rw [hD.hlen, List.getElem?_append_right (Nat.le_refl _), Nat.sub_self] at hx'
      rw [List.getElem?_append_right (Nat.le_refl _), Nat.sub_self] at hy
      simp at hx' hy
      subst hx' hy
      exact hgr
  · intro x hx
    simp only [rfeet, List.mem_cons, List.mem_append, Option.map_some, Option.toList_some, List.not_mem_nil, or_false] at hx
    rcases hx with rfl | rfl | rfl | rfl | hx | hx | rfl
    · exact .inl (by rw [hF]; simp [rfeet])
    · exact .inl (by rw [hF]; simp [rfeet])
    · exact .inl (by rw [hF]; simp [rfeet])
    · rcases hat with hat | hat
      · cases hA with
        | none => simp [Value.ownBlock] at hat
        | some ad =>
          simp [Value.ownBlock] at hat
          exact .inl (by rw [hF]; simp [rfeet, hat])
      · simp [Value.ownBlock] at hat
        exact .inr (by omega)
    · exact .inl (by rw [hF]; simp [rfeet, hx])
    · exact .inl (by rw [hF]; simp [rfeet, hx])
    · exact .inr (by omega)
  · refine (((k1.mono hfr).trans (k2.alloc _) (by simp)).trans k4 (fun x hx => .inl ?_)).trans k5 hfr
    rw [hF]
    cases hA with
    | none => simp [Value.ownBlock] at hx
    | some ad =>
      simp [Value.ownBlock] at hx
      simp [rfeet, hx]

set_option maxRecDepth 100000 in
set_option maxHeartbeats 1000000 in
theorem rwrite_ok (r : Nat) (F : List Nat) (D : Dk) (x : Int) (A : Option Addr) (c : Nat) (bs : List UInt8) (w : World) (h : RD w F r D) (hb : D.acts < 1000000) (hv : Vals w F A (bs.map B)) (hl : bs.length = 64) (hc64 : 64 ≤ c) (hx : D.has x = true) (ht : D.tick = true) :
    Calls Try.prog 14 #[.pointer (some ⟨r, 0, none⟩), .int .i64 x, .slice A 64 c] w fun e w' => e = .returned (.int .i64 0) ∧ RTurned w w' F r { D.ticked with held := D.ticked.held ++ [(x.toNat, bs)] } := by
  have H := hide h
  have HM := hide h.mem
  obtain ⟨i, rfl, hi⟩ := has_nat hx
  rw [Int.toNat_natCast]
  have HOK : Hid (Dk.ok { D.ticked with held := D.ticked.held ++ [(i, bs)] }) := hide (by
    have h1 := h.1.wrote (at_ := i) hx hl
    rw [Int.toNat_natCast] at h1
    rw [ticked_same.2.1]
    exact h1)
  have c0 : ∃ gs cs, w.cell? ⟨r, 0, none⟩ = some (.slice (some ⟨gs, 0, none⟩) D.n cs) := by
    obtain ⟨ho, gs, gf, hA, sgs, hgs, cs, cf, hc, fv, lA, lc, h, hF⟩ := h
    exact ⟨gs, cs, h.blk.cell 0⟩
  obtain ⟨gs0, cs0, c0⟩ := c0
  have hn1 := h.1.n1
  have hn2 := h.1.n2
  have HQ := hide hx
  have HT := hide ht
  have HV := hide hv
  have HL := hide hl
  clear h hx ht hv hl
  go_enter Try.func14, Try.ntmps14
  go_wp2_with fail
  refine (within_has D i _ (by rfl) _).mono ?_
  rintro e w' ⟨rfl, rfl⟩
  rw [HQ.out]
  go_wp2_with fail
  refine (ract_at r F D _ H.out hb).mono ?_
  rintro e w1 ⟨rfl, hd, hk⟩
  rw [HT.out]
  have HLT := hide hd.lt
  obtain ⟨ho, gs, gf, hA, sgs, hgs, cs, cf, hc, fv, lA, lc, h, hF⟩ := hd
  have hfew : D.ticked.held.length ≤ 1000001 := by
    have h1 := ho.few
    have h2 := (@ticked_same D).2.2.2
    omega
  have c1 : w1.cell? ⟨r, 1, none⟩ = some (.slice hA D.ticked.held.length hc) := h.blk.cell 1
  have HD := hide h
  have HF := hide hF
  have HK := hide hk
  have HV1 := hide ((HV.out.kept hk (fun z hz => by simp at hz; subst hz; exact HM.out)).mono (S' := []) (by simp))
  clear h hF hk ho c0
  go_wp2
  go_region_law (first
    | (have K2b := K2.out; refine step_append_vals rfl (.tmp 28) (.tmp 35) 52 rfl 0 78 (.agg #[.int .i64 0, .slice none 0 0]) 2 32 Try.underlying52 held_info rfl (by omega) (.slice hA D.ticked.held.length hc) D.ticked.held.length (hcells D.ticked.held hgs) rfl (own_kept HD.out.hrow (K2.out.alloc _) (by simp)) [] _ 1 1 [.int .i64 (i : Int), sl g2] rfl rfl V2.out (oneCell_held _ _) (by simp only [maxLen]; omega) (by omega) (Nat.zero_le _) ?_; intro v1 w5 hown1 hk1 hat1; obtain ⟨g1, cc1, cur1, rfl, _, _⟩ := own_some hown1 (by omega); have HST := hide (rwrote_at HD.out HF.out HK.out K2.out G2.out R2.out hk1 hown1 (by simpa using hat1) HOK.out); obtain ⟨⟨c15, f15⟩, _⟩ := HST.out; clear hown1 hk1 hat1)
    | (go_simp; go_at_call 37; refine (part64 A c bs _ (show Vals w1.drew [] A (bs.map B) from HV1.out) HL.out hc64).mono ?_; rintro e w2 ⟨g2, rfl, hg2, hr2, hk2⟩; have K2 := hide (((Kept.refl [] w1).drew).trans hk2 (by simp)); have R2 := hide hr2; have G2 := hide (show w1.heap.size ≤ g2 from hg2); have V2 : Hid (Vals (w2.alloc (.cells #[.int .i64 (i : Int), sl g2] 78)) [] (some ⟨w2.heap.size, 0, none⟩) [.int .i64 (i : Int), sl g2]) := hide ((Row.of_blk (Blk.new w2 78 #[.int .i64 (i : Int), sl g2])).vals0 (S := []) (by simp)); have c12 := hk2.cell (p := ⟨r, 1, none⟩) (show World.cell? _ _ = _ from c1) (by simp); have hrl2 : r < w2.heap.size := block_lt_of_cell c12; unfold sl; clear hr2 hk2 hg2))
  all_goals
    have HN := hide HST.out.2
    clear HST c15 f15
    go_wp2
    go_ret
    exact ⟨rfl, HN.out⟩

theorem rwrite_at (r : Nat) (F : List Nat) (D : Dk) (x : Int) (A : Option Addr) (n c : Nat) (bs : List UInt8) (w : World) (h : RD w F r D) (hb : D.acts < 1000000) (hv : Vals w F A (bs.map B)) (hl : bs.length = n) (hc : n ≤ c) :
    Calls Try.prog 14 #[.pointer (some ⟨r, 0, none⟩), .int .i64 x, .slice A n c] w fun e w' => e = .returned (.int .i64 (D.write x bs).1) ∧ RTurned w w' F r (D.write x bs).2 := by
  by_cases hx : D.has x = false ∨ n ≠ 64
  · have e1 : D.write x bs = (1, D) := by
      unfold Dk.write
      rw [if_neg]
      intro hc
      simp at hc
      rcases hx with hx | hx
      · rw [hx] at hc; exact absurd hc.1 (by simp)
      · exact hx (by omega)
    rw [e1]
    exact (rwrite_bad r F D x A n c w h hx).mono fun e w' ⟨he, hw⟩ => ⟨he, by subst hw; exact RTurned.same h⟩
  · have hx1 : D.has x = true := by
      cases hq : D.has x
      · exact absurd (.inl hq) hx
      · rfl
    have hn : n = 64 := by
      rcases Nat.decEq n 64 with h | h
      · exact absurd (.inr h) hx
      · exact h
    subst hn
    have hcc : (D.has x && bs.length == 64) = true := by rw [hx1, hl]; rfl
    cases ht : D.tick
    · have e1 : D.write x bs = (3, D.ticked) := by
        unfold Dk.write
        rw [if_pos hcc, ht]
        rfl
      rw [e1]
      exact rwrite_off r F D x A c w h hb hx1 ht
    · have e1 : D.write x bs = (0, { D.ticked with held := D.ticked.held ++ [(x.toNat, bs)] }) := by
        unfold Dk.write
        rw [if_pos hcc, ht, ticked_same.2.1]
        rfl
      rw [e1]
      exact rwrite_ok r F D x A c bs w h hb hv hl hc hx1 ht
end Go.Proofs.Yteobkgajebbpaaa.disk
