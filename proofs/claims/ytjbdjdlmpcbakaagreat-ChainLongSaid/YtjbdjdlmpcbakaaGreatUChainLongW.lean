import Derived.Test.YtjbdjdlmpcbakaaGreatUChainAwake
namespace Go.Proofs.YtjbdjdlmpcbakaaGreat.sc
set_option linter.unusedVariables false
open Go.RowKit mem base disk geom
open record (Rc)
theorem recs_fit {D : Dk} (hD : D.ok) {a z : Int} : ∀ (f : Nat) (p : Ps), ∀ y ∈ (recs D a z f p).1, fits y.2 y.1 = true
  | 0, p => by simp [recs]
  | f + 1, p => by
    unfold recs
    rcases hf : follow D a z p with ⟨o, e⟩
    cases o with
    | none => simp
    | some y =>
      obtain ⟨R0, s0⟩ := y
      obtain ⟨h1, _, _, h4, _⟩ := follow_ok hD hf
      dsimp only
      by_cases hn : hasNext R0 = true
      · rw [if_pos hn]
        intro y hy
        rw [List.mem_singleton.1 hy]
        exact h4
      · rw [if_neg hn]
        intro y hy
        rcases List.mem_cons.1 hy with rfl | hy
        · exact h4
        · exact recs_fit hD f _ y hy
def NumL (p : Ps) (L : List (Ps × Rc)) (E : Ps) : Prop := E.l = p.l + L.length ∧ ∀ (i : Nat) (y : Ps × Rc), L[i]? = some y → y.2.l = p.l + i ∧ y.1.l = y.2.l ∧ y.1.v = y.2.p ∧ y.2.ok
theorem seg_num {D : Dk} (hD : D.ok) {s l r q : Int} {p : Ps} {L : List (Ps × Rc)} {E : Ps} {err : Int} (h : segOf D s l r q p = (L, E, err)) : NumL p L E := by
  unfold segOf scanOf at h
  rcases hst : start D (ofSeg none s l r q p.s).2.1 (ofSeg none s l r q p.s).2.2 p false with ⟨o, e⟩
  rw [hst] at h
  cases o with
  | none =>
    dsimp only at h
    injection h with h1 h2
    injection h2 with h2 _
    subst h1 h2
    exact ⟨by simp, by simp⟩
  | some x =>
    dsimp only at h
    have hxl : x.l = p.l := by
      unfold start at hst
      split at hst
      · injection hst with h1 _
        injection h1 with h1
        rw [← h1]
      · split at hst
        · cases hst
        · split at hst
          · rename_i h5
            injection hst with h1 _
            injection h1 with h1
            rw [← h1]
            have h6 := h5.2.resolve_left (by simp)
            unfold hd.fits at h6
            simp at h6
            exact h6.2.2.1
          · cases hst
    obtain ⟨n1, n2⟩ := recs_num hD (ofSeg none s l r q p.s).2.2.toNat x (a := (ofSeg none s l r q p.s).2.1) (z := (ofSeg none s l r q p.s).2.2)
    have n3 := recs_fit hD (ofSeg none s l r q p.s).2.2.toNat x (a := (ofSeg none s l r q p.s).2.1) (z := (ofSeg none s l r q p.s).2.2)
    rw [h] at n1 n2 n3
    refine ⟨by rw [n1, hxl], fun i y hy => ?_⟩
    obtain ⟨m1, m2⟩ := n2 i y hy
    have m3 := n3 y (List.mem_of_getElem? hy)
    unfold fits at m3
    simp at m3
    exact ⟨by rw [m1, hxl], m3.1.symm, m3.2.1.symm, m2⟩
theorem Logs.nums {D : Dk} (hD : D.ok) {s l r q : Int} {p : Ps} {L : List (Ps × Rc)} {E : Ps} {err : Int} (h : Logs D s l r q p L E err) : NumL p L E := by
  induction h with
  | last p L E err at_ h hs => exact seg_num hD h
  | more p L E err at_ L2 E2 err2 h hs h2 ih =>
    obtain ⟨a1, a2⟩ := seg_num hD h
    obtain ⟨b1, b2⟩ := ih
    obtain ⟨_, c1, _⟩ := hs.done h rfl
    refine ⟨by rw [b1, c1, a1, List.length_append]; omega, fun i y hy => ?_⟩
    by_cases hi : i < L.length
    · rw [List.getElem?_append_left hi] at hy
      exact a2 i y hy
    · rw [List.getElem?_append_right (by omega)] at hy
      obtain ⟨d1, d2⟩ := b2 _ y hy
      exact ⟨by rw [d1, c1, a1]; omega, d2⟩
theorem FncIn.at_ {w : World} {S : List Nat} : ∀ {l : List (Ps × Rc)} {xs : List Value} {i : Nat} {y : Ps × Rc}, FncIn w S l xs → l[i]? = some y → xs[10 * i]? = some (.int .i64 y.1.s) ∧ xs[10 * i + 1]? = some (.int .i64 y.1.o) ∧ xs[10 * i + 2]? = some (.int .i64 y.1.l) ∧ xs[10 * i + 3]? = some (.int .i64 y.1.v) ∧ xs[10 * i + 4]? = some (.int .i64 y.1.m) ∧ xs[10 * i + 5]? = some (.int .i64 y.2.m) ∧ xs[10 * i + 6]? = some (.int .i64 y.2.l) ∧ xs[10 * i + 7]? = some (.int .i64 y.2.p)
  | [], _, _, _, _, h => by simp at h
  | (pk, R) :: l, _, 0, y, ⟨L, m, c, P, n, d, rest, h1, h2, h3⟩, h => by
    simp at h
    subst h h1
    simp
  | (pk, R) :: l, _, i + 1, y, ⟨L, m, c, P, n, d, rest, h1, h2, h3⟩, h => by
    have := h3.at_ (i := i) (y := y) (by simpa using h)
    subst h1
    obtain ⟨a0, a1, a2, a3, a4, a5, a6, a7⟩ := this
    have hten : ∀ (u0 u1 u2 u3 u4 u5 u6 u7 u8 u9 : Value) (l : List Value) (n : Nat), (u0 :: u1 :: u2 :: u3 :: u4 :: u5 :: u6 :: u7 :: u8 :: u9 :: l)[n + 10]? = l[n]? := fun _ _ _ _ _ _ _ _ _ _ _ _ => rfl
    refine ⟨?_, ?_, ?_, ?_, ?_, ?_, ?_, ?_⟩
    · rw [show 10 * (i + 1) = 10 * i + 10 by omega, hten]; exact a0
    · rw [show 10 * (i + 1) + 1 = 10 * i + 1 + 10 by omega, hten]; exact a1
    · rw [show 10 * (i + 1) + 2 = 10 * i + 2 + 10 by omega, hten]; exact a2
    · rw [show 10 * (i + 1) + 3 = 10 * i + 3 + 10 by omega, hten]; exact a3
    · rw [show 10 * (i + 1) + 4 = 10 * i + 4 + 10 by omega, hten]; exact a4
    · rw [show 10 * (i + 1) + 5 = 10 * i + 5 + 10 by omega, hten]; exact a5
    · rw [show 10 * (i + 1) + 6 = 10 * i + 6 + 10 by omega, hten]; exact a6
    · rw [show 10 * (i + 1) + 7 = 10 * i + 7 + 10 by omega, hten]; exact a7
end Go.Proofs.YtjbdjdlmpcbakaaGreat.sc

namespace Go.Proofs.YtjbdjdlmpcbakaaGreat.sc
set_option linter.unusedSimpArgs false
set_option linter.unusedVariables false
open Go.RowKit mem base disk owns geom
open record (Rc RcIn RcAt put5 put5_kept cell5)
set_option maxRecDepth 100000 in
set_option maxHeartbeats 8000000 in
theorem long_any (x0 x1 x2 : Int) (w : World) : Calls Tryz.prog 6 #[.int .i64 x0, .int .i64 x1, .int .i64 x2] w fun e w' => e = .returned (.bool true) ∧ Kept [] w w' := by
  obtain ⟨b1, hb1⟩ : ∃ b1, w.heap.size = b1 := ⟨_, rfl⟩
  obtain ⟨w1, hw1⟩ : ∃ w1, w.alloc (.cells #[.int .i64 3, .int .i64 8, .int .i64 24] 29) = w1 := ⟨_, rfl⟩
  have k1 : Kept [] w w1 := by rw [← hw1]; exact (Kept.refl [] w).alloc _
  have m1 : Blk w1 b1 29 #[.int .i64 3, .int .i64 8, .int .i64 24] := by rw [← hw1, ← hb1]; exact Blk.new w _ _
  have HK1 := hide k1
  have HM1 := hide m1
  have HSZ := hide (show w.heap.size ≤ b1 by omega)
  obtain ⟨c0, c1, c2⟩ : w1.cell? ⟨b1, 0, none⟩ = some (.int .i64 3) ∧ w1.cell? ⟨b1, 1, none⟩ = some (.int .i64 8) ∧ w1.cell? ⟨b1, 2, none⟩ = some (.int .i64 24) := ⟨m1.cell 0, m1.cell 1, m1.cell 2⟩
  clear k1 m1
  go_enter Tryz.func6, Tryz.ntmps6
  go_wp2_with fail
  refine (cdesk_any 3 8 24 _ (by unfold geom.Ok; omega)).mono ?_
  rintro e w2 ⟨F, d, G, rd, g, n, r, q, rfl, hdk⟩
  have HDK := hide hdk
  clear hdk
  obtain ⟨k, hk⟩ : ∃ k : Nat, 1 + x1 % 40 = (k : Int) := ⟨(1 + x1 % 40).toNat, by omega⟩
  obtain ⟨e, he⟩ : ∃ e : Nat, 6 + x2 % 10 = (e : Int) := ⟨(6 + x2 % 10).toNat, by omega⟩
  obtain ⟨sg, hsg⟩ : ∃ sg, x0 % 8 = sg := ⟨_, rfl⟩
  have hk40 : 1 ≤ k ∧ k ≤ 40 := by omega
  have he15 : 6 ≤ e ∧ e ≤ 15 := by omega
  have hs7 : 0 ≤ sg ∧ sg ≤ 7 := by omega
  have hwk : IntKind.i64.wrap (1 + x1 % 40) = (k : Int) := by rw [IntWalk.i64_in _ (by omega)]; exact hk
  have hwe : IntKind.i64.wrap (6 + x2 % 10) = (e : Int) := by rw [IntWalk.i64_in _ (by omega)]; exact he
  clear hk he
  go_wp2_with fail
  refine (round_any x1 40 _ (by omega) (by omega)).mono ?_
  rintro e1 w2' ⟨rfl, rfl⟩
  go_wp2_with fail
  refine (round_any x2 10 _ (by omega) (by omega)).mono ?_
  rintro e1 w2' ⟨rfl, rfl⟩
  clear c0 c1 c2
  go_wp2_with fail
  refine (round_any x0 8 _ (by omega) (by omega)).mono ?_
  rintro e1 w2' ⟨rfl, rfl⟩
  rw [hsg]
  obtain ⟨b6, hb6⟩ : ∃ b6, w2.heap.size = b6 := ⟨_, rfl⟩
  obtain ⟨w3, hw3⟩ : ∃ w3, w2.alloc (.cells #[.int .i64 sg, .int .i64 0, .int .i64 3, .int .i64 8, .int .i64 2] 24) = w3 := ⟨_, rfl⟩
  have k3 : Kept [] w2 w3 := by rw [← hw3]; exact (Kept.refl [] w2).alloc _
  have m6 : Blk w3 b6 24 #[.int .i64 sg, .int .i64 0, .int .i64 3, .int .i64 8, .int .i64 2] := by rw [← hw3, ← hb6]; exact Blk.new w2 _ _
  have hbd := HDK.out.geo.bounds
  have hok := HDK.out.geo.ok
  have hnn := HDK.out.hn
  have hrq : 0 ≤ r ∧ 0 ≤ q := by omega
  have hn4 : n ≤ 4096 := by omega
  obtain ⟨L, hrg, hLn, hEs⟩ := ring_told hrq n hnn hn4 ⟨sg, 0, 3, 8, 2⟩ hs7 rfl (by dsimp only; omega) (by dsimp only; omega) (by dsimp only; omega) k e (by omega) (by omega)
  obtain ⟨E, hE⟩ : ∃ E, (laidP 8 24 r q (Dk.new n) ⟨sg, 0, 3, 8, 2⟩ (ringL e 8 k sg)).2 = E := ⟨_, rfl⟩
  obtain ⟨D1, hD1⟩ : ∃ D1, (laidP 8 24 r q (Dk.new n) ⟨sg, 0, 3, 8, 2⟩ (ringL e 8 k sg)).1 = D1 := ⟨_, rfl⟩
  dsimp only at hrg hEs
  rw [hD1, hE] at hrg
  rw [hE] at hEs
  obtain ⟨T, hT⟩ : ∃ T : Nat, (k - 1) / e = T := ⟨_, rfl⟩
  rw [hT] at hLn hEs
  have hT6 : T ≤ 6 := by rw [← hT]; exact Nat.le_of_lt_succ (Nat.div_lt_of_lt_mul (by omega))
  have HT := hide hT
  have HE := sealed hE
  have HD1E := sealed hD1
  have HRG := hide hrg
  have HLN := hide hLn
  have HES := hide hEs
  have HRF := hide HDK.out.geo.rf
  have HG := hide (HDK.out.geo.kept k3)
  have HM6 := hide m6
  have HM1b := hide (k3.blk (HDK.out.kept.blk HM1.out (by simp)) (by simp))
  have HK3 := hide ((HK1.out.trans HDK.out.kept (by simp)).trans k3 (by simp))
  have HDD := hide (HDK.out.dd.kept0 k3)
  have HFG := hide (show ∀ x ∈ F ++ G, b1 < x ∧ x < b6 from fun x hx => by
    have h1 := HDK.out.new x hx
    have h2 := HDK.out.old
    have h3 := HM1.out.lt
    have h4 := HDK.out.dd.lt x hx
    omega)
  have HFB := hide (show w.heap.size ≤ b6 from by have h1 := HM1.out.lt; have h2 := HDK.out.kept.size; omega)
  have HGL := hide (show g < b6 from by have := HDK.out.geo.lt; omega)
  have HGF := hide (show g ∉ F ++ G from fun hm => by have := HDK.out.new g hm; omega)
  have HN1 := hide (show 1 ≤ n ∧ n ≤ 4096 by omega)
  have HNN := hide (show (2 + 2 * r + 4 * q + 8 * 24 : Int) = n by omega)
  obtain ⟨d0, d1, d2⟩ : w3.cell? ⟨b1, 0, none⟩ = some (.int .i64 3) ∧ w3.cell? ⟨b1, 1, none⟩ = some (.int .i64 8) ∧ w3.cell? ⟨b1, 2, none⟩ = some (.int .i64 24) := ⟨HM1b.out.cell 0, HM1b.out.cell 1, HM1b.out.cell 2⟩
  obtain ⟨p0, p1', p2', p3', p4'⟩ := cell5 HM6.out
  clear hD1 hE k3 m6 hbd hok hnn hn4 hrq hrg hLn hEs HM1 HK1 HDK hw1 hT hwk hwe
  go_wp2_with fail
  refine (ring_any F G d rd (Dk.new n) ⟨sg, 0, 3, 8, 2⟩ 3 8 24 r q k e w3 HDD.out (Reads.new n HN1.out.1 HN1.out.2) HRF.out (by dsimp only; omega) (by rw [show ((Dk.new n).n : Int) = n by unfold Dk.n Dk.new; simp]; have := HNN.out; omega) (by simp [Dk.new]) (by dsimp only; omega) (by dsimp only; omega) (by dsimp only; omega) (by omega) (by omega) (by omega)).mono ?_
  rw [show ((8 : Int).toNat) = 8 from rfl]
  rw [HE.out, HD1E.out]
  rintro e1 w4 ⟨rfl, F1, G1, hd1, hs1, hk1⟩
  unfold Ps.val
  obtain ⟨b7, hb7⟩ : ∃ b7, w4.heap.size = b7 := ⟨_, rfl⟩
  obtain ⟨w5, hw5⟩ : ∃ w5, w4.alloc (.cells #[.int .i64 E.s, .int .i64 E.o, .int .i64 E.l, .int .i64 E.v, .int .i64 E.m] 24) = w5 := ⟨_, rfl⟩
  have k5 : Kept [] w4 w5 := by rw [← hw5]; exact (Kept.refl [] w4).alloc _
  have m7 : Blk w5 b7 24 #[.int .i64 E.s, .int .i64 E.o, .int .i64 E.l, .int .i64 E.v, .int .i64 E.m] := by rw [← hw5, ← hb7]; exact Blk.new w4 _ _
  have HAP0 := hide (show ∀ y, (y = b1 ∨ y = b6 ∨ y = g) → y ∉ F ++ G from fun y hy hm => by
    have h3 := HFG.out y hm
    rcases hy with rfl | rfl | rfl
    · omega
    · omega
    · exact HGF.out hm)
  have HM6c := hide (k5.blk (hk1.blk HM6.out (HAP0.out _ (.inr (.inl rfl)))) (by simp))
  have HGc := hide ((HG.out.kept hk1 (HAP0.out _ (.inr (.inr rfl)))).kept k5)
  have HKc := hide ((HK3.out.trans hk1 (fun i hi => .inr (by have := HFG.out i hi; have := HSZ.out; omega))).trans k5 (by simp))
  have HM7 := hide m7
  have HD5 := hide (hd1.kept0 k5)
  have HF1 := hide (show ∀ i ∈ F1 ++ G1, i < b7 ∧ i ≠ g ∧ w.heap.size ≤ i from fun i hi => by
    refine ⟨by rw [← hb7]; exact hd1.lt i hi, fun he => ?_, ?_⟩
    · subst he
      rcases hs1 i hi with h | h
      · exact HGF.out h
      · have h1 := HGL.out; have h2 := HM6.out.lt; omega
    · rcases hs1 i hi with h | h
      · have := HFG.out i h; have := HSZ.out; omega
      · have h1 := HK3.out.size; omega)
  have HGB := hide (show g < b7 ∧ b6 < b7 from by have h1 := HGL.out; have h2 := HM6.out.lt; have h4 := hk1.size; omega)
  clear hd1 hs1 hk1 k5 m7 p0 p1' p2' p3' p4' d0 d1 d2 HM1b HM6 HG HK3 HDD hw3
  obtain ⟨p0, p1', p2', p3', p4'⟩ := cell5 HM6c.out
  go_wp2_with fail
  refine (cnew_any d g ⟨sg, 0, 3, 8, 2⟩ _).mono ?_
  rintro e1 w6 ⟨c, rfl, hc, hcc, hk6⟩
  have HCC := hide hcc
  have HC := hide (show b7 < c ∧ c ≠ g ∧ c ∉ F1 ++ G1 from by
    have h1 := HM7.out.lt
    exact ⟨by omega, by have := HGB.out; omega, fun hm => by have := HF1.out c hm; omega⟩)
  have HM6d := hide (hk6.blk HM6c.out (by simp))
  have HM7d := hide (hk6.blk HM7.out (by simp))
  have HGd := hide (HGc.out.kept hk6)
  have HKd := hide (HKc.out.trans hk6 (by simp))
  have HDd := hide (HD5.out.kept0 hk6)
  clear hc hcc hk6 p0 p1' p2' p3' p4' HM6c HGc HKc HM7 HD5 hw5
  go_wp2_with fail
  refine (cwalk_any F1 D1 HRG.out.reads.ok c d g _ _ _ 3 8 r q 24 L E 0 99 _ HRG.out.logs (by have := HLN.out; omega) (by have := HLN.out; omega) HCC.out HGd.out HDd.out.a HC.out.2.1 (fun hm => HC.out.2.2 (by simp [hm]))).mono ?_
  rintro e1 wA ⟨A, cp, xs, rfl, hcp, hvs, hfn, hcc, hkA⟩
  have HVS := hide hvs
  have HFN := hide hfn
  have HCCg := hide hcc
  have HM6g := hide (hkA.blk HM6d.out (by have h1 := HC.out.1; have h2 := HGB.out; simp; omega))
  have HM7g := hide (hkA.blk HM7d.out (by have h1 := HC.out.1; simp; omega))
  have HKg := hide (HKd.out.trans hkA (fun i hi => by simp at hi; subst hi; exact .inr (by have h1 := HC.out.1; have h2 := HGB.out; have h3 := HFB.out; omega)))
  have HNUM := hide (HRG.out.logs.nums HRG.out.reads.ok)
  clear hvs hfn hcc hkA HCC HM6d HM7d HKd HGd HDd
  have hquo : ((k : Int) - 1).tdiv (e : Int) = (T : Int) := by
    rw [Int.tdiv_eq_ediv_of_nonneg (by omega), ← HT.out, show (k : Int) - 1 = ((k - 1 : Nat) : Int) by omega]
    exact (Int.natCast_ediv _ _).symm
  have hwq1 : IntKind.i64.wrap ((k : Int) - 1) = (k : Int) - 1 := IntWalk.i64_in _ (by omega)
  have hwq2 : IntKind.i64.wrap (T : Int) = (T : Int) := IntWalk.i64_in _ (by omega)
  have hwq3 : IntKind.i64.wrap ((k : Int) + (T : Int)) = (k : Int) + (T : Int) := IntWalk.i64_in _ (by omega)
  have hez : (e : Int) ≠ 0 := by omega
  have hlenI : (L.length : Int) = (k : Int) + (T : Int) := by have := HLN.out; omega
  have hne1 : ((L.length : Int) != (k : Int) + (T : Int)) = false := by rw [hlenI]; simp
  have hne2 : ∀ W : World, (binOp .neq 24 (.agg #[.int .i64 E.s, .int .i64 E.o, .int .i64 E.l, .int .i64 E.v, .int .i64 E.m]) (.agg #[.int .i64 E.s, .int .i64 E.o, .int .i64 E.l, .int .i64 E.v, .int .i64 E.m])).run Tryz.prog W = .ok (.bool false) W := fun W => by
    have := neq_pos E E W
    simpa using this
  have HALL := hide (show ∀ W, Kept [] wA W → (fun W => Kept [] wA W ∧ (W.cell? ⟨b7, 0, none⟩ = some (.int .i64 E.s) ∧ W.cell? ⟨b7, 1, none⟩ = some (.int .i64 E.o) ∧ W.cell? ⟨b7, 2, none⟩ = some (.int .i64 E.l) ∧ W.cell? ⟨b7, 3, none⟩ = some (.int .i64 E.v) ∧ W.cell? ⟨b7, 4, none⟩ = some (.int .i64 E.m))) W from fun W k => ⟨k, cell5 (k.blk HM7g.out (by simp))⟩)
  go_wp2
  refine wp_region_noPanic ?_
  refine wp_region_held_drew (S := fun W => Kept [] wA W ∧ (W.cell? ⟨b7, 0, none⟩ = some (.int .i64 E.s) ∧ W.cell? ⟨b7, 1, none⟩ = some (.int .i64 E.o) ∧ W.cell? ⟨b7, 2, none⟩ = some (.int .i64 E.l) ∧ W.cell? ⟨b7, 3, none⟩ = some (.int .i64 E.v) ∧ W.cell? ⟨b7, 4, none⟩ = some (.int .i64 E.m))) (by kernel_rfl) (by exact HALL.out _ ((Kept.refl [] wA).drew)) (fun hHeld => ?_)
  refine tK 0 65 ?v1 rfl ?hy1 ?_
  case hy1 => intro W h; (try dsimp only at h); go_simp; try with_reducible rfl
  try simp only [Act.put, pA, pB, pC]
  refine tK 1 66 ?v2 rfl ?hy2 ?_
  case hy2 => intro W h; (try dsimp only at h); go_simp; try with_reducible rfl
  try simp only [Act.put, pA, pB, pC]
  refine tK 2 67 ?v3 rfl ?hy3 ?_
  case hy3 => intro W h; (try dsimp only at h); go_simp; try with_reducible rfl
  try simp only [Act.put, pA, pB, pC]
  refine tK 3 68 ?v4 rfl ?hy4 ?_
  case hy4 => intro W h; (try dsimp only at h); go_simp; try with_reducible rfl
  try simp only [Act.put, pA, pB, pC]
  refine tK 4 69 ?v5 rfl ?hy5 ?_
  case hy5 => intro W h; (try dsimp only at h); go_simp; try with_reducible rfl
  try simp only [Act.put, pA, pB, pC]
  refine tK 5 70 ?v6 rfl ?hy6 ?_
  case hy6 => intro W h; (try dsimp only at h); go_simp; try with_reducible rfl
  try simp only [Act.put, pA, pB, pC]
  refine tK 6 71 ?v7 rfl ?hy7 ?_
  case hy7 => intro W h; (try dsimp only at h); go_simp; try with_reducible rfl
  try simp only [Act.put, pA, pB, pC]
  refine tK 7 72 ?v8 rfl ?hy8 ?_
  case hy8 => intro W h; (try dsimp only at h); go_simp; try with_reducible rfl
  try simp only [Act.put, pA, pB, pC]
  refine tK 9 74 ?v9 rfl ?hy9 ?_
  case hy9 => intro W h; (try dsimp only at h); go_simp; try with_reducible rfl
  try simp only [Act.put, pA, pB, pC]
  refine held_one (i := 8) (o := ⟨some 73, _, _, _, _, _⟩) rfl (by kernel_rfl) (by rfl) (fun K hK => ?_)
  go_simp
  refine (cend_any c d g _ _ _ _ (HCCg.out.kept hHeld.1 (by simp))).mono ?_
  rintro e1 wB ⟨rfl, hkB⟩
  have HB := hide (hHeld.1.trans hkB (by simp))
  unfold Ps.val
  refine hK.out _ _ (by exact HALL.out _ HB.out) (fun hHeld => ?_)
  clear hK K
  try simp only [Act.put, pA, pB, pC]
  refine tK 10 75 ?v10 rfl ?hy10 ?_
  case hy10 => intro W h; (try dsimp only at h); go_simp; try with_reducible rfl
  try simp only [Act.put, pA, pB, pC]
  refine tK 11 76 ?v11 rfl ?hy11 ?_
  case hy11 => intro W h; (try dsimp only at h); go_simp; try with_reducible rfl
  try simp only [Act.put, pA, pB, pC]
  refine tK 12 77 ?v12 rfl ?hy12 ?_
  case hy12 => intro W h; (try dsimp only at h); go_simp; try with_reducible rfl
  try simp only [Act.put, pA, pB, pC]
  refine tK 13 78 ?v13 rfl ?hy13 ?_
  case hy13 => intro W h; (try dsimp only at h); go_simp; try with_reducible rfl
  try simp only [Act.put, pA, pB, pC]
  refine held_one (i := 14) (o := ⟨some 79, _, _, _, _, _⟩) rfl (by kernel_rfl) (by rfl) (fun K hK => ?_)
  go_simp
  refine (cerr_any c d g _ _ _ _ (HCCg.out.kept HB.out (by simp))).mono ?_
  rintro e1 wC ⟨rfl, rfl⟩
  refine hK.out _ _ (by exact HALL.out _ HB.out) (fun hHeld => ?_)
  clear hK K
  try simp only [Act.put, pA, pB, pC]
  refine tK 15 80 ?v14 rfl ?hy14 ?_
  case hy14 => intro W h; (try dsimp only at h); go_simp; try with_reducible rfl
  try simp only [Act.put, pA, pB, pC]
  refine tK 16 81 ?v15 rfl ?hy15 ?_
  case hy15 => intro W h; (try dsimp only at h); go_simp; try with_reducible rfl
  try simp only [Act.put, pA, pB, pC]
  refine wpAnyH_done (by kernel_rfl) ?_ _
  refine NoPanic.normal ?_
  clear HALL
  go_wp2
  go_loopw [19] (fun i wr => ∃ j : Nat, j ≤ L.length ∧ i = .int .i64 (j : Int) ∧ Hid (Kept [] wA wr)) (fun i wr => L.length - (intOf i).toNat)
  case atStart => exact ⟨0, Nat.zero_le _, rfl, HB⟩
  case round =>
    obtain ⟨j, hj, rfl, HKr⟩ := hrel
    by_cases hlt : j < L.length
    · obtain ⟨y, hy⟩ : ∃ y, L[j]? = some y := ⟨_, List.getElem?_eq_getElem hlt⟩
      obtain ⟨n1, n2, n3, _⟩ := HNUM.out.2 j y hy
      dsimp only at n1
      obtain ⟨_, _, f2, f3, _, _, f6, f7⟩ := HFN.out.at_ hy
      obtain ⟨ad, rfl, _, g2⟩ := HVS.out _ _ f2
      obtain ⟨_, e3, _, g3⟩ := HVS.out _ _ f3
      cases e3
      obtain ⟨_, e6, _, g6⟩ := HVS.out _ _ f6
      cases e6
      obtain ⟨_, e7, _, g7⟩ := HVS.out _ _ f7
      cases e7
      rw [item.add_field _ _ _ (by omega), show 10 * j = j * 10 by omega] at g2 g3 g6 g7
      rw [n2, n1] at g2
      rw [n1] at g6
      rw [n3] at g3
      obtain ⟨pv, hpv⟩ : ∃ pv, y.2.p = pv := ⟨_, rfl⟩
      rw [hpv] at g3 g7
      have HALL := hide (show ∀ W, Kept [] wA W → (fun W => Kept [] wA W ∧ W.cell? ⟨(ad.add (j * 10)).block, (ad.add (j * 10)).off + 5 + 1, none⟩ = some (.int .i64 (3 + (j : Int))) ∧ W.cell? ⟨(ad.add (j * 10)).block, (ad.add (j * 10)).off + 2, none⟩ = some (.int .i64 (3 + (j : Int))) ∧ W.cell? ⟨(ad.add (j * 10)).block, (ad.add (j * 10)).off + 3, none⟩ = some (.int .i64 pv) ∧ W.cell? ⟨(ad.add (j * 10)).block, (ad.add (j * 10)).off + 5 + 2, none⟩ = some (.int .i64 pv)) W from fun W k => ⟨k, k.cell g6 (by simp), k.cell g2 (by simp), k.cell g3 (by simp), k.cell g7 (by simp)⟩)
      have hw3 : IntKind.i64.wrap (3 + (j : Int)) = 3 + (j : Int) := IntWalk.i64_in _ (by have := HLN.out; omega)
      have hw4 : IntKind.i64.wrap ((j : Int) + 1) = (j : Int) + 1 := IntWalk.i64_in _ (by have := HLN.out; omega)
      have hdl : decide ((j : Int) < (L.length : Int)) = true := decide_eq_true (by omega)
      clear hy n1 n2 n3 f2 f3 f6 f7 g2 g3 g6 g7 hpv
      go_wp2
      refine wp_region_noPanic ?_
      refine wp_region_held_drew (S := fun W => Kept [] wA W ∧ W.cell? ⟨(ad.add (j * 10)).block, (ad.add (j * 10)).off + 5 + 1, none⟩ = some (.int .i64 (3 + (j : Int))) ∧ W.cell? ⟨(ad.add (j * 10)).block, (ad.add (j * 10)).off + 2, none⟩ = some (.int .i64 (3 + (j : Int))) ∧ W.cell? ⟨(ad.add (j * 10)).block, (ad.add (j * 10)).off + 3, none⟩ = some (.int .i64 pv) ∧ W.cell? ⟨(ad.add (j * 10)).block, (ad.add (j * 10)).off + 5 + 2, none⟩ = some (.int .i64 pv)) (by kernel_rfl) (by exact HALL.out _ (HKr.out.drew)) (fun hHeld => ?_)
      refine tK 0 88 ?v16 rfl ?hy16 ?_
      case hy16 => intro W h; (try dsimp only at h); go_simp; try with_reducible rfl
      try simp only [Act.put, pA, pB, pC]
      refine tK 1 89 ?v17 rfl ?hy17 ?_
      case hy17 => intro W h; (try dsimp only at h); go_simp; try with_reducible rfl
      try simp only [Act.put, pA, pB, pC]
      refine tK 2 90 ?v18 rfl ?hy18 ?_
      case hy18 => intro W h; (try dsimp only at h); go_simp; try with_reducible rfl
      try simp only [Act.put, pA, pB, pC]
      refine tK 3 91 ?v19 rfl ?hy19 ?_
      case hy19 => intro W h; (try dsimp only at h); go_simp; try with_reducible rfl
      try simp only [Act.put, pA, pB, pC]
      refine tK 4 92 ?v20 rfl ?hy20 ?_
      case hy20 => intro W h; (try dsimp only at h); go_simp; try with_reducible rfl
      try simp only [Act.put, pA, pB, pC]
      refine tK 5 93 ?v21 rfl ?hy21 ?_
      case hy21 => intro W h; (try dsimp only at h); go_simp; try with_reducible rfl
      try simp only [Act.put, pA, pB, pC]
      refine tK 6 94 ?v22 rfl ?hy22 ?_
      case hy22 => intro W h; (try dsimp only at h); go_simp; try with_reducible rfl
      try simp only [Act.put, pA, pB, pC]
      refine tK 7 95 ?v23 rfl ?hy23 ?_
      case hy23 => intro W h; (try dsimp only at h); go_simp; try with_reducible rfl
      try simp only [Act.put, pA, pB, pC]
      refine tK 8 96 ?v24 rfl ?hy24 ?_
      case hy24 => intro W h; (try dsimp only at h); go_simp; try with_reducible rfl
      try simp only [Act.put, pA, pB, pC]
      refine tK 9 97 ?v25 rfl ?hy25 ?_
      case hy25 => intro W h; (try dsimp only at h); go_simp; try with_reducible rfl
      try simp only [Act.put, pA, pB, pC]
      refine tK 10 98 ?v26 rfl ?hy26 ?_
      case hy26 => intro W h; (try dsimp only at h); go_simp; try with_reducible rfl
      try simp only [Act.put, pA, pB, pC]
      refine tK 11 99 ?v27 rfl ?hy27 ?_
      case hy27 => intro W h; (try dsimp only at h); go_simp; try with_reducible rfl
      try simp only [Act.put, pA, pB, pC]
      refine tK 12 100 ?v28 rfl ?hy28 ?_
      case hy28 => intro W h; (try dsimp only at h); go_simp; try with_reducible rfl
      try simp only [Act.put, pA, pB, pC]
      refine tK 13 101 ?v29 rfl ?hy29 ?_
      case hy29 => intro W h; (try dsimp only at h); go_simp; try with_reducible rfl
      try simp only [Act.put, pA, pB, pC]
      refine tK 14 102 ?v30 rfl ?hy30 ?_
      case hy30 => intro W h; (try dsimp only at h); go_simp; try with_reducible rfl
      try simp only [Act.put, pA, pB, pC]
      refine tK 15 103 ?v31 rfl ?hy31 ?_
      case hy31 => intro W h; (try dsimp only at h); go_simp; try with_reducible rfl
      try simp only [Act.put, pA, pB, pC]
      refine tK 16 104 ?v32 rfl ?hy32 ?_
      case hy32 => intro W h; (try dsimp only at h); go_simp; try with_reducible rfl
      try simp only [Act.put, pA, pB, pC]
      refine tK 17 105 ?v33 rfl ?hy33 ?_
      case hy33 => intro W h; (try dsimp only at h); go_simp; try with_reducible rfl
      try simp only [Act.put, pA, pB, pC]
      refine tK 18 106 ?v34 rfl ?hy34 ?_
      case hy34 => intro W h; (try dsimp only at h); go_simp; try with_reducible rfl
      try simp only [Act.put, pA, pB, pC]
      refine tK 19 107 ?v35 rfl ?hy35 ?_
      case hy35 => intro W h; (try dsimp only at h); go_simp; try with_reducible rfl
      try simp only [Act.put, pA, pB, pC]
      refine tK 20 108 ?v36 rfl ?hy36 ?_
      case hy36 => intro W h; (try dsimp only at h); go_simp; try with_reducible rfl
      try simp only [Act.put, pA, pB, pC]
      refine tK 21 109 ?v37 rfl ?hy37 ?_
      case hy37 => intro W h; (try dsimp only at h); go_simp; try with_reducible rfl
      try simp only [Act.put, pA, pB, pC]
      refine tK 22 110 ?v38 rfl ?hy38 ?_
      case hy38 => intro W h; (try dsimp only at h); go_simp; try with_reducible rfl
      try simp only [Act.put, pA, pB, pC]
      refine tK 23 111 ?v39 rfl ?hy39 ?_
      case hy39 => intro W h; (try dsimp only at h); go_simp; try with_reducible rfl
      try simp only [Act.put, pA, pB, pC]
      refine tK 24 112 ?v40 rfl ?hy40 ?_
      case hy40 => intro W h; (try dsimp only at h); go_simp; try with_reducible rfl
      try simp only [Act.put, pA, pB, pC]
      refine tK 25 113 ?v41 rfl ?hy41 ?_
      case hy41 => intro W h; (try dsimp only at h); go_simp; try with_reducible rfl
      try simp only [Act.put, pA, pB, pC]
      refine tK 26 114 ?v42 rfl ?hy42 ?_
      case hy42 => intro W h; (try dsimp only at h); go_simp; try with_reducible rfl
      try simp only [Act.put, pA, pB, pC]
      refine tK 27 115 ?v43 rfl ?hy43 ?_
      case hy43 => intro W h; (try dsimp only at h); go_simp; try with_reducible rfl
      try simp only [Act.put, pA, pB, pC]
      refine tK 28 116 ?v44 rfl ?hy44 ?_
      case hy44 => intro W h; (try dsimp only at h); go_simp; try with_reducible rfl
      try simp only [Act.put, pA, pB, pC]
      refine tK 29 117 ?v45 rfl ?hy45 ?_
      case hy45 => intro W h; (try dsimp only at h); go_simp; try with_reducible rfl
      try simp only [Act.put, pA, pB, pC]
      refine tK 30 118 ?v46 rfl ?hy46 ?_
      case hy46 => intro W h; (try dsimp only at h); go_simp; try with_reducible rfl
      try simp only [Act.put, pA, pB, pC]
      refine tK 31 119 ?v47 rfl ?hy47 ?_
      case hy47 => intro W h; (try dsimp only at h); go_simp; try with_reducible rfl
      try simp only [Act.put, pA, pB, pC]
      refine tK 32 120 ?v48 rfl ?hy48 ?_
      case hy48 => intro W h; (try dsimp only at h); go_simp; try with_reducible rfl
      try simp only [Act.put, pA, pB, pC]
      refine tK 33 121 ?v49 rfl ?hy49 ?_
      case hy49 => intro W h; (try dsimp only at h); go_simp; try with_reducible rfl
      try simp only [Act.put, pA, pB, pC]
      refine tK 34 122 ?v50 rfl ?hy50 ?_
      case hy50 => intro W h; (try dsimp only at h); go_simp; try with_reducible rfl
      try simp only [Act.put, pA, pB, pC]
      refine wpAnyH_done (by kernel_rfl) ?_ _
      refine NoPanic.normal ?_
      go_wp2
      refine ⟨⟨j + 1, by omega, by go_num, hide (HKr.out.drew)⟩, ?_⟩
      show L.length - (intOf _).toNat < L.length - (intOf _).toNat
      simp only [intOf]
      omega
    · have hdl : decide ((j : Int) < (L.length : Int)) = false := decide_eq_false (by omega)
      obtain ⟨q0, q1, q2, q3, q4⟩ := cell5 (HKr.out.blk HM7g.out (by simp))
      obtain ⟨r0, r1, r2, r3, r4⟩ := cell5 (HKr.out.blk HM6g.out (by simp))
      have hEl : E.l = 3 + (k : Int) + (T : Int) := by have h1 := HNUM.out.1; dsimp only at h1; omega
      have hwa : IntKind.i64.wrap (sg + (T : Int)) = sg + (T : Int) := IntWalk.i64_in _ (by omega)
      have hwb : IntKind.i64.wrap (3 + (k : Int)) = 3 + (k : Int) := IntWalk.i64_in _ (by omega)
      have hwc : IntKind.i64.wrap (3 + (k : Int) + (T : Int)) = 3 + (k : Int) + (T : Int) := IntWalk.i64_in _ (by omega)
      have hrem : (sg + (T : Int)).tmod 8 = E.s := by rw [Int.tmod_eq_emod_of_nonneg (by omega), HES.out]
      have hq1 : (E.s == E.s) = true := beq_self_eq_true _
      have hq2 : (E.l == 3 + (k : Int) + (T : Int)) = true := beq_iff_eq.2 hEl
      have hwd : IntKind.i64.wrap E.s = E.s := IntWalk.i64_in _ (by have := HES.out; omega)
      clear hne1 hne2 hlenI hquo
      go_wp2_with fail
      refine (cawake_any _).mono ?_
      rintro e1 wZ ⟨rfl, hkZ⟩
      have HZ := hide ((HKg.out.trans HKr.out (by simp)).trans hkZ (by simp))
      go_wp2
      go_ret
      exact ⟨rfl, HZ.out⟩
end Go.Proofs.YtjbdjdlmpcbakaaGreat.sc
