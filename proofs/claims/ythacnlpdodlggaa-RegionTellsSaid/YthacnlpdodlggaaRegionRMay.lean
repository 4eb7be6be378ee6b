/- The reference's PosMay, slots, RegionMay. (Written by tools/genrgmay.py.) -/
import Derived.Test.YthacnlpdodlggaaRegionMay
import Derived.Test.YthacnlpdodlggaaRefCore
namespace Go.Proofs.Ythacnlpdodlggaa.rg
open Go.RowKit Go.Proofs.Ythacnlpdodlggaa.mem Go.Proofs.Ythacnlpdodlggaa.base Go.Proofs.Ythacnlpdodlggaa.row Go.Proofs.Ythacnlpdodlggaa.ref

theorem rposMay_any (D : Dv) (hD : D.ok) (R : Rg) (w : World) :
    Calls Try.prog 44 #[.agg #[.int .i64 D.b, .int .i64 D.n, .int .i64 D.z], .agg #[.int .i64 R.s, .int .i64 R.o, .int .i64 R.l, .int .i64 R.p, .int .i64 R.k]] w fun e w' => e = .returned (.bool (R.posMay D)) ∧ Kept [] w w' := by
  have hk := ((Kept.refl [] w).alloc (.cells #[.int .i64 D.b, .int .i64 D.n, .int .i64 D.z] 31)).alloc (.cells #[.int .i64 R.s, .int .i64 R.o, .int .i64 R.l, .int .i64 R.p, .int .i64 R.k] 24)
  obtain ⟨_, ⟨hn1, hn2⟩, ⟨hz1, hz2⟩, _, _⟩ := hD
  go_enter Try.func44, Try.ntmps44
  go_wp2_with fail
  by_cases h0 : 0 ≤ R.s ∧ R.s ≤ (D.n : Int) - 1
  · refine (base.within_yes R.s 0 ((D.n : Int) - 1) _ h0).mono ?_
    rintro e w1 ⟨rfl, rfl⟩
    go_wp2_with fail
    by_cases h1 : 0 ≤ R.o ∧ R.o ≤ D.z - 1
    · refine (base.within_yes R.o 0 (D.z - 1) _ h1).mono ?_
      rintro e w2 ⟨rfl, rfl⟩
      go_wp2_with fail
      by_cases h2 : 1 ≤ R.l ∧ R.l ≤ 2147483647
      · refine (base.within_yes R.l 1 2147483647 _ h2).mono ?_
        rintro e w3 ⟨rfl, rfl⟩
        go_wp2_with fail
        by_cases h3 : 1 ≤ R.k ∧ R.k ≤ 2147483647
        · refine (base.within_yes R.k 1 2147483647 _ h3).mono ?_
          rintro e w4 ⟨rfl, rfl⟩
          go_wp2_with fail
          by_cases h4 : 0 ≤ R.p ∧ R.p ≤ 4294967295
          · refine (base.within_yes R.p 0 4294967295 _ h4).mono ?_
            rintro e w5 ⟨rfl, rfl⟩
            go_wp2
            go_ret
            exact ⟨by simp [Rg.posMay, h0, h1, h2, h3, h4], hk⟩
          · refine (base.within_no R.p 0 4294967295 _ h4).mono ?_
            rintro e w5 ⟨rfl, rfl⟩
            go_wp2
            go_ret
            exact ⟨by simp [Rg.posMay, h0, h1, h2, h3, h4], hk⟩
        · refine (base.within_no R.k 1 2147483647 _ h3).mono ?_
          rintro e w4 ⟨rfl, rfl⟩
          go_wp2
          go_ret
          exact ⟨by simp [Rg.posMay, h0, h1, h2, h3], hk⟩
      · refine (base.within_no R.l 1 2147483647 _ h2).mono ?_
        rintro e w3 ⟨rfl, rfl⟩
        go_wp2
        go_ret
        exact ⟨by simp [Rg.posMay, h0, h1, h2], hk⟩
    · refine (base.within_no R.o 0 (D.z - 1) _ h1).mono ?_
      rintro e w2 ⟨rfl, rfl⟩
      go_wp2
      go_ret
      exact ⟨by simp [Rg.posMay, h0, h1], hk⟩
  · refine (base.within_no R.s 0 ((D.n : Int) - 1) _ h0).mono ?_
    rintro e w1 ⟨rfl, rfl⟩
    go_wp2
    go_ret
    exact ⟨by simp [Rg.posMay, h0], hk⟩

theorem rslots_any (D : Dv) (hD : D.ok) (A : Option Addr) (n c : Nat) (l : List Int) (w : World) (hv : Vals w [] A (l.map I)) (hl : l.length = n) (hn : n ≤ 1000) :
    Calls Try.prog 45 #[.agg #[.int .i64 D.b, .int .i64 D.n, .int .i64 D.z], .slice A n c] w fun e w' => e = .returned (.bool (slotsMay D.y l)) ∧ Kept [] w w' := by
  have hk0 := (Kept.refl [] w).alloc (.cells #[.int .i64 D.b, .int .i64 D.n, .int .i64 D.z] 31)
  have HV := hide (hv.kept hk0 (by simp))
  have HK := hide hk0
  have HL := hide hl
  clear hv hl hk0
  go_enter Try.func45, Try.ntmps45
  go_wp2_with fail
  refine (rpag D hD _).mono ?_
  rintro e w1 ⟨rfl, hk⟩
  have HV1 := hide (HV.out.kept hk (by simp))
  have HK1 := hide (HK.out.trans hk (by simp))
  clear hk HV HK
  by_cases hy : n = D.y
  · have hq : ((n : Int) != (D.y : Int)) = false := by simp [hy]
    have HY := hide hy
    clear hy
    go_wp2
    go_loop [5] (fun i => ∃ j : Nat, j ≤ n ∧ i = .int .i64 j ∧ Hid (slotsOk (l.take j))) (fun i => n - (intOf i).toNat)
    case atStart => exact ⟨0, by omega, rfl, hide (by simp [slotsOk])⟩
    case round =>
      obtain ⟨j, hj, rfl, HM⟩ := hrel
      by_cases hlt : j < n
      · obtain ⟨x, hx⟩ : ∃ x, l[j]? = some x := ⟨_, List.getElem?_eq_getElem (by rw [HL.out]; exact hlt)⟩
        obtain ⟨ad, rfl, _, hc⟩ := HV1.out j (I x) (by rw [List.getElem?_map, hx]; rfl)
        unfold I at hc
        have HX := hide hx
        clear hx
        go_wp2_with fail
        by_cases hb : 0 ≤ x ∧ x ≤ 1
        · refine (base.within_yes x 0 1 _ hb).mono ?_
          rintro e w2 ⟨rfl, rfl⟩
          have HM2 := hide (slotsOk_snoc HM.out HX.out hb)
          clear hb
          go_wp2
          go_round
          case rel => exact ⟨j + 1, by omega, by go_num, HM2⟩
          case measure => simp [intOf]; omega
        · refine (base.within_no x 0 1 _ hb).mono ?_
          rintro e w2 ⟨rfl, rfl⟩
          have HE : Hid (slotsMay D.y l = false) := hide (by
            unfold slotsMay
            rw [decide_eq_false (fun h : slotsOk l => hb (slotsOk_at h HX.out)), Bool.false_and])
          clear hb
          go_wp2
          go_ret
          exact ⟨by rw [HE.out]; try rfl, HK1.out⟩
      · obtain rfl : j = n := by omega
        have hm := HM.out
        rw [List.take_of_length_le (by rw [HL.out]; exact Nat.le_refl _)] at hm
        have HE : Hid (slotsMay D.y l = true) := hide (by
          unfold slotsMay
          rw [decide_eq_true hm, decide_eq_true (HL.out.trans HY.out)]
          rfl)
        clear hm
        go_wp2
        go_ret
        exact ⟨by rw [HE.out]; try rfl, HK1.out⟩
  · have hq : ((n : Int) != (D.y : Int)) = true := by rw [bne_iff_ne]; omega
    have HE : Hid (slotsMay D.y l = false) := hide (by
      unfold slotsMay
      rw [decide_eq_false (fun h : l.length = D.y => hy (HL.out.symm.trans h)), Bool.and_false])
    clear hy
    go_wp2
    go_ret
    exact ⟨by rw [HE.out]; try rfl, HK1.out⟩

theorem quiet_eq2 {P : Program} {f : FuncId} {args : Array Value} {w : World} {d n : Nat} {v : Value}
    (h : Calls P f args (w.drewN (d + n)) fun e w' => e = .returned v ∧ w.drewN (d + n) = w') : Calls P f args (w.drewN (d + n)) fun e w'' => e = .returned v ∧ ∃ m, w'' = w.drewN (d + m) :=
  h.mono fun _ _ ⟨he, hm⟩ => ⟨he, n, hm.symm⟩
theorem cfg_cells {w : World} {q : Nat} {t : TypeId} {b n z : Int} (h : Blk w q t #[.int .i64 b, .int .i64 n, .int .i64 z]) : w.cell? ⟨q, 0, none⟩ = some (.int .i64 b) ∧ w.cell? ⟨q, 1, none⟩ = some (.int .i64 n) ∧ w.cell? ⟨q, 2, none⟩ = some (.int .i64 z) := ⟨h.cell 0, h.cell 1, h.cell 2⟩

set_option maxRecDepth 100000 in
set_option maxHeartbeats 1000000 in
theorem rmay_any (D : Dv) (hD : D.ok) (R : Rg) (X : Sl) (w : World) (h : RgIn w [] X R) (hs : X.small) :
    Calls Try.prog 12 #[.agg #[.int .i64 D.b, .int .i64 D.n, .int .i64 D.z], R.val X] w fun e w' => e = .returned (.bool (R.may D)) ∧ Kept [] w w' := by
  obtain ⟨hs1, hs2, hs3⟩ := hs
  obtain ⟨wa, hwa⟩ : ∃ wa, w.alloc (.cells #[.int .i64 D.b, .int .i64 D.n, .int .i64 D.z] 31) = wa := ⟨_, rfl⟩
  have hka : Kept [] w wa := by rw [← hwa]; exact (Kept.refl [] w).alloc _
  have hba : Blk wa w.heap.size 31 #[.int .i64 D.b, .int .i64 D.n, .int .i64 D.z] := by rw [← hwa]; exact Blk.new w _ _
  obtain ⟨q, hq⟩ : ∃ q, w.heap.size = q := ⟨_, rfl⟩
  rw [hq] at hba
  obtain ⟨w0, hw0⟩ : ∃ w0, wa.alloc (.cells (R.cells X) 28) = w0 := ⟨_, rfl⟩
  have hk0 : Kept [] wa w0 := by rw [← hw0]; exact (Kept.refl [] wa).alloc _
  have hb0 : Blk w0 wa.heap.size 28 (R.cells X) := by rw [← hw0]; exact Blk.new wa _ _
  obtain ⟨g, hg⟩ : ∃ g, wa.heap.size = g := ⟨_, rfl⟩
  rw [hg] at hb0
  unfold Rg.cells at hw0
  have HD := hide hD
  have hk := hka.trans hk0 (by simp)
  have HX := hide (h.kept hk (by simp))
  have HB := hide hb0
  have HQ := hide (hk0.blk hba (by simp))
  have HK := hide hk
  obtain ⟨c0, c1, c2, c3, c4, c5, c6, c7, c8, c9, c10, c11, c12, c13⟩ := cell14 hb0
  obtain ⟨d0, d1, d2⟩ := cfg_cells HQ.out
  clear hk0 hb0 h hk hka hba
  unfold Rg.val
  go_enter Try.func12, Try.ntmps12
  go_wp2_with fail
  by_cases h0 : 1 ≤ R.g ∧ R.g ≤ 2147483647
  · refine (base.within_yes R.g 1 2147483647 _ h0).mono ?_
    rintro e w1 ⟨rfl, rfl⟩
    go_wp2_with fail
    by_cases h1 : 1 ≤ R.v ∧ R.v ≤ 2147483647
    · refine (base.within_yes R.v 1 2147483647 _ h1).mono ?_
      rintro e w2 ⟨rfl, rfl⟩
      go_wp2_with fail
      by_cases h2 : 1 ≤ R.m ∧ R.m ≤ 2
      · refine (base.within_yes R.m 1 2 _ h2).mono ?_
        rintro e w3 ⟨rfl, rfl⟩
        go_wp2_with fail
        by_cases h3 : 0 ≤ R.e ∧ R.e ≤ 2147483647
        · refine (base.within_yes R.e 0 2147483647 _ h3).mono ?_
          rintro e w4 ⟨rfl, rfl⟩
          go_wp2_with fail
          by_cases h4 : 0 ≤ R.q ∧ R.q ≤ 2147483647
          · refine (base.within_yes R.q 0 2147483647 _ h4).mono ?_
            rintro e w5 ⟨rfl, rfl⟩
            go_wp2_with fail
            by_cases h5 : 0 ≤ R.d ∧ R.d ≤ R.q
            · refine (base.within_yes R.d 0 R.q _ h5).mono ?_
              rintro e w6 ⟨rfl, rfl⟩
              have hnum : R.numMay = true := by simp [Rg.numMay, h0, h1, h2, h3, h4, h5]
              have HN := hide hnum
              clear hnum h0 h1 h2 h3 h4 h5
              go_wp2_with fail
              refine (rposMay_any D HD.out R _).mono ?_
              rintro e x1 ⟨rfl, hk⟩
              have HX1 := hide (HX.out.kept hk (by simp))
              have HB1 := hide (hk.blk HB.out (by simp))
              have HQ1 := hide (hk.blk HQ.out (by simp))
              have HK1 := hide (HK.out.trans hk (by simp))
              clear c0 c1 c2 c3 c4 c5 c6 c7 c8 c9 c10 c11 c12 c13 d0 d1 d2 hk HX HB HQ HK
              obtain ⟨c0, c1, c2, c3, c4, c5, c6, c7, c8, c9, c10, c11, c12, c13⟩ := cell14 HB1.out
              obtain ⟨d0, d1, d2⟩ := cfg_cells HQ1.out
              by_cases t1 : R.posMay D = true
              · rw [t1]
                have T1 := hide t1
                clear t1
                go_wp2_with fail
                refine (rslots_any D HD.out X.A X.a X.ca R.bs _ HX1.out.bs HX1.out.ha hs1).mono ?_
                rintro e x2 ⟨rfl, hk⟩
                have HX2 := hide (HX1.out.kept hk (by simp))
                have HB2 := hide (hk.blk HB1.out (by simp))
                have HQ2 := hide (hk.blk HQ1.out (by simp))
                have HK2 := hide (HK1.out.trans hk (by simp))
                clear c0 c1 c2 c3 c4 c5 c6 c7 c8 c9 c10 c11 c12 c13 d0 d1 d2 hk HX1 HB1 HQ1 HK1
                obtain ⟨c0, c1, c2, c3, c4, c5, c6, c7, c8, c9, c10, c11, c12, c13⟩ := cell14 HB2.out
                obtain ⟨d0, d1, d2⟩ := cfg_cells HQ2.out
                by_cases t2 : slotsMay D.y R.bs = true
                · rw [t2]
                  have T2 := hide t2
                  clear t2
                  go_wp2_with fail
                  refine (rslots_any D HD.out X.O X.o X.co R.ov _ HX2.out.ov HX2.out.ho hs2).mono ?_
                  rintro e x3 ⟨rfl, hk⟩
                  have HX3 := hide (HX2.out.kept hk (by simp))
                  have HB3 := hide (hk.blk HB2.out (by simp))
                  have HQ3 := hide (hk.blk HQ2.out (by simp))
                  have HK3 := hide (HK2.out.trans hk (by simp))
                  clear c0 c1 c2 c3 c4 c5 c6 c7 c8 c9 c10 c11 c12 c13 d0 d1 d2 hk HX2 HB2 HQ2 HK2
                  obtain ⟨c0, c1, c2, c3, c4, c5, c6, c7, c8, c9, c10, c11, c12, c13⟩ := cell14 HB3.out
                  obtain ⟨d0, d1, d2⟩ := cfg_cells HQ3.out
                  by_cases t3 : slotsMay D.y R.ov = true
                  · rw [t3]
                    have T3 := hide t3
                    clear t3
                    by_cases t4 : X.u = D.n
                    · have q4 : ((X.u : Int) != (D.n : Int)) = false := by simp [t4]
                      have HE : Hid (R.may D = usesMay R.s R.us) := hide (by unfold Rg.may; rw [HN.out, T1.out, T2.out, T3.out, decide_eq_true (by rw [HX3.out.hu, t4])]; rfl)
                      clear t4
                      obtain ⟨n, hn⟩ : ∃ n, X.u = n := ⟨_, rfl⟩
                      rw [hn] at hs3 q4 c13
                      have HU : Hid (Uses x3 [] X.U R.us) := hide HX3.out.us
                      have HL : Hid (R.us.length = n) := hide (HX3.out.hu.trans hn)
                      clear hn
                      go_wp2
                      go_loopw [5] (fun i wr => ∃ j : Nat, j ≤ n ∧ i = .int .i64 j ∧ Hid (usesOk R.s (R.us.take j)) ∧ ∃ dn, wr = x3.drewN dn) (fun i wr => n - (intOf i).toNat)
                      case atStart => exact ⟨0, by omega, rfl, hide (usesOk_nil _ _), 0, rfl⟩
                      case round =>
                        obtain ⟨j, hj, rfl, HM, dn, rfl⟩ := hrel
                        by_cases hlt : j < n
                        · obtain ⟨x, hx⟩ : ∃ x, R.us[j]? = some x := ⟨_, List.getElem?_eq_getElem (by rw [HL.out]; exact hlt)⟩
                          obtain ⟨ad, hadd, _, e0, e1⟩ := HU.out.at_ hx
                          rw [hadd] at c13
                          clear hadd
                          have HNO : Hid (¬ x.ok R.s j → usesMay R.s R.us = false) := hide (fun h => usesMay_no (fun hn => h (hn j x hx)))
                          have HX := hide hx
                          clear hx
                          obtain ⟨s, t⟩ := x
                          dsimp only at e0 e1
                          have l1 : (j : Int) < (n : Int) := by omega
                          by_cases hs : 0 ≤ s ∧ s ≤ 2
                          · have HS := hide hs
                            by_cases ht : 0 ≤ t ∧ t ≤ 2147483647
                            · have HT := hide ht
                              by_cases ha : s = 1
                              · by_cases hb : (j : Int) = R.s
                                · have HM2 := hide (usesOk_snoc HM.out HX.out ⟨hs, ht, by simp [ha, hb]⟩)
                                  have q1 : (s == 1) = true := by simp [ha]
                                  have q2 : ((j : Int) == R.s) = true := by simp [hb]
                                  clear ha hb hs ht
                                  go_wp2
                                  go_quiet ((go_at_call 43; first | (with_reducible exact quiet_eq2 (base.within_yes s 0 2 _ HS.out)) | (with_reducible exact quiet_eq2 (base.within_yes t 0 2147483647 _ HT.out))))
                                  go_wp2
                                  go_roundw
                                  case rel => exact ⟨j + 1, by omega, by go_num, HM2, _, rfl⟩
                                  case measure => simp [intOf]; omega
                                · have HE2 := hide (HNO.out (fun h => hb (h.2.2.1 ha)))
                                  have q1 : (s == 1) = true := by simp [ha]
                                  have q2 : ((j : Int) == R.s) = false := by simp [hb]
                                  clear ha hb hs ht
                                  go_wp2
                                  go_quiet ((go_at_call 43; first | (with_reducible exact quiet_eq2 (base.within_yes s 0 2 _ HS.out)) | (with_reducible exact quiet_eq2 (base.within_yes t 0 2147483647 _ HT.out))))
                                  go_wp2
                                  go_ret
                                  exact ⟨by rw [HE.out, HE2.out]; try rfl, (HK3.out.drewN _).drewN _⟩
                              · by_cases hb : (j : Int) = R.s
                                · have HE2 := hide (HNO.out (fun h => ha (h.2.2.2 hb)))
                                  have q1 : (s == 1) = false := by simp [ha]
                                  have q2 : ((j : Int) == R.s) = true := by simp [hb]
                                  clear ha hb hs ht
                                  go_wp2
                                  go_quiet ((go_at_call 43; first | (with_reducible exact quiet_eq2 (base.within_yes s 0 2 _ HS.out)) | (with_reducible exact quiet_eq2 (base.within_yes t 0 2147483647 _ HT.out))))
                                  go_wp2
                                  go_ret
                                  exact ⟨by rw [HE.out, HE2.out]; try rfl, (HK3.out.drewN _).drewN _⟩
                                · have HM2 := hide (usesOk_snoc HM.out HX.out ⟨hs, ht, by simp [ha, hb]⟩)
                                  have q1 : (s == 1) = false := by simp [ha]
                                  have q2 : ((j : Int) == R.s) = false := by simp [hb]
                                  clear ha hb hs ht
                                  go_wp2
                                  go_quiet ((go_at_call 43; first | (with_reducible exact quiet_eq2 (base.within_yes s 0 2 _ HS.out)) | (with_reducible exact quiet_eq2 (base.within_yes t 0 2147483647 _ HT.out))))
                                  go_wp2
                                  go_roundw
                                  case rel => exact ⟨j + 1, by omega, by go_num, HM2, _, rfl⟩
                                  case measure => simp [intOf]; omega
                            · have HE2 := hide (HNO.out (fun h => ht h.2.1))
                              have HT := hide ht
                              clear hs ht
                              go_wp2
                              go_quiet ((go_at_call 43; first | (with_reducible exact quiet_eq2 (base.within_yes s 0 2 _ HS.out)) | (with_reducible exact quiet_eq2 (base.within_no t 0 2147483647 _ HT.out))))
                              go_wp2
                              go_ret
                              exact ⟨by rw [HE.out, HE2.out]; try rfl, (HK3.out.drewN _).drewN _⟩
                          · have HE2 := hide (HNO.out (fun h => hs h.1))
                            have HS := hide hs
                            clear hs
                            go_wp2
                            go_quiet ((go_at_call 43; with_reducible exact quiet_eq2 (base.within_no s 0 2 _ HS.out)))
                            go_wp2
                            go_ret
                            exact ⟨by rw [HE.out, HE2.out]; try rfl, (HK3.out.drewN _).drewN _⟩
                        · obtain rfl : j = n := by omega
                          have HE2 := hide (usesMay_yes (usesOk_all HM.out HL.out))
                          go_wp2
                          go_ret
                          exact ⟨by rw [HE.out, HE2.out]; try rfl, HK3.out.drewN _⟩
                    · have q4 : ((X.u : Int) != (D.n : Int)) = true := by rw [bne_iff_ne]; omega
                      have HE : Hid (R.may D = false) := hide (by unfold Rg.may; rw [decide_eq_false (by rw [HX3.out.hu]; exact t4)]; simp)
                      clear t4
                      go_wp2
                      go_ret
                      exact ⟨by rw [HE.out]; try rfl, HK3.out⟩
                  · have t3' := (Bool.not_eq_true _).mp t3
                    rw [t3']
                    have HE : Hid (R.may D = false) := hide (by unfold Rg.may; rw [t3']; simp)
                    clear t3 t3'
                    go_wp2
                    go_ret
                    exact ⟨by rw [HE.out]; try rfl, HK3.out⟩
                · have t2' := (Bool.not_eq_true _).mp t2
                  rw [t2']
                  have HE : Hid (R.may D = false) := hide (by unfold Rg.may; rw [t2']; simp)
                  clear t2 t2'
                  go_wp2
                  go_ret
                  exact ⟨by rw [HE.out]; try rfl, HK2.out⟩
              · have t1' := (Bool.not_eq_true _).mp t1
                rw [t1']
                have HE : Hid (R.may D = false) := hide (by unfold Rg.may; rw [t1']; simp)
                clear t1 t1'
                go_wp2
                go_ret
                exact ⟨by rw [HE.out]; try rfl, HK1.out⟩
            · refine (base.within_no R.d 0 R.q _ h5).mono ?_
              rintro e w6 ⟨rfl, rfl⟩
              have HE : Hid (R.may D = false) := hide (by unfold Rg.may Rg.numMay; simp [h0, h1, h2, h3, h4, h5])
              clear h0 h1 h2 h3 h4 h5
              go_wp2
              go_ret
              exact ⟨by rw [HE.out]; try rfl, HK.out⟩
          · refine (base.within_no R.q 0 2147483647 _ h4).mono ?_
            rintro e w5 ⟨rfl, rfl⟩
            have HE : Hid (R.may D = false) := hide (by unfold Rg.may Rg.numMay; simp [h0, h1, h2, h3, h4])
            clear h0 h1 h2 h3 h4
            go_wp2
            go_ret
            exact ⟨by rw [HE.out]; try rfl, HK.out⟩
        · refine (base.within_no R.e 0 2147483647 _ h3).mono ?_
          rintro e w4 ⟨rfl, rfl⟩
          have HE : Hid (R.may D = false) := hide (by unfold Rg.may Rg.numMay; simp [h0, h1, h2, h3])
          clear h0 h1 h2 h3
          go_wp2
          go_ret
          exact ⟨by rw [HE.out]; try rfl, HK.out⟩
      · refine (base.within_no R.m 1 2 _ h2).mono ?_
        rintro e w3 ⟨rfl, rfl⟩
        have HE : Hid (R.may D = false) := hide (by unfold Rg.may Rg.numMay; simp [h0, h1, h2])
        clear h0 h1 h2
        go_wp2
        go_ret
        exact ⟨by rw [HE.out]; try rfl, HK.out⟩
    · refine (base.within_no R.v 1 2147483647 _ h1).mono ?_
      rintro e w2 ⟨rfl, rfl⟩
      have HE : Hid (R.may D = false) := hide (by unfold Rg.may Rg.numMay; simp [h0, h1])
      clear h0 h1
      go_wp2
      go_ret
      exact ⟨by rw [HE.out]; try rfl, HK.out⟩
  · refine (base.within_no R.g 1 2147483647 _ h0).mono ?_
    rintro e w1 ⟨rfl, rfl⟩
    have HE : Hid (R.may D = false) := hide (by unfold Rg.may Rg.numMay; simp [h0])
    clear h0
    go_wp2
    go_ret
    exact ⟨by rw [HE.out]; try rfl, HK.out⟩
end Go.Proofs.Ythacnlpdodlggaa.rg
