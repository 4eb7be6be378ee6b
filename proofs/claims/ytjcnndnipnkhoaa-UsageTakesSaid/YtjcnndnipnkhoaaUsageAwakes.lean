/- The statements' awake: the document's own example. -/
import Derived.Test.YtjcnndnipnkhoaaUsageAwake
namespace Go.Proofs.Ytjcnndnipnkhoaa.us
set_option linter.unusedSimpArgs false
open Go.RowKit Go.Proofs.Ytjcnndnipnkhoaa.mem Go.Proofs.Ytjcnndnipnkhoaa.base Go.Proofs.Ytjcnndnipnkhoaa.geom

theorem taken0 : List.replicate (8 : Int).toNat Rw.zero = taken 0 := by decide
set_option maxRecDepth 100000 in
set_option maxHeartbeats 4000000 in
theorem awake_any (w : World) : Calls Try.prog 7 #[] w fun e w' => e = .returned (.bool true) ∧ Kept [] w w' := by
  go_enter Try.func7, Try.ntmps7
  go_wp2_with fail
  refine (eight_any _).mono ?_
  rintro e w1 ⟨p, rfl, hp, hg, hk⟩
  have HG := hide (hg.kept ((Kept.refl [] w1).alloc (.cells #[.int .i64 4, .int .i64 8, .int .i64 24] 27)))
  have HK := hide (hk.alloc (.cells #[.int .i64 4, .int .i64 8, .int .i64 24] 27))
  obtain ⟨w2, hw2⟩ : ∃ w2, w1.alloc (.cells #[.int .i64 4, .int .i64 8, .int .i64 24] 27) = w2 := ⟨_, rfl⟩
  rw [hw2] at HG HK
  clear hg hk
  go_wp2_with fail
  refine (new_none p 4 8 24 2 1 none 0 _ HG.out).mono ?_
  rintro e w3 ⟨t, V, rfl, ht1, hV1, ht, hk⟩
  rw [taken0] at ht
  have HT := hide ht
  have HG3 := hide (HG.out.kept hk)
  have HK3 := hide (HK.out.trans hk (by simp))
  have hpV : Hid (p ≠ V) := hide (by have := HG.out.lt; omega)
  have hVw : Hid (w.heap.size ≤ V) := hide (Nat.le_trans HK.out.size hV1)
  clear ht hk hw2 HG HK ht1 hV1 hp
  go_wp2_with fail
  refine (new_nil none 0 0 _).mono ?_
  rintro e w3' ⟨rfl, rfl⟩
  go_wp2
  go_loopw [5, 6, 7, 8] (fun n i s ok wr => ∃ k j : Nat, k ≤ 8 ∧ (k ≤ 6 ∧ j = k ∨ 6 < k ∧ j = 6) ∧ i = .int .i64 k ∧ n = .int .i64 j ∧ Hid (TAt wr t V 4 8 24 2 1 (taken j)) ∧ Hid (GAt wr p 4 8 24 2 1) ∧ Hid (Kept [] w wr)) (fun n i s ok _ => 8 - (intOf i).toNat)
  case atStart => exact ⟨0, 0, by omega, by omega, rfl, rfl, HT, HG3, HK3⟩
  case round =>
    obtain ⟨k, j, hk8, hkj, rfl, rfl, HT4, HG4, HK4⟩ := hrel
    by_cases hlt : k < 8
    · by_cases h6 : k < 6
      · obtain rfl : j = k := by omega
        have hL := ex_free j (by omega)
        obtain ⟨d, hd⟩ : ∃ d, 8 - j = d + 1 := ⟨7 - j, by omega⟩
        rw [hd, List.range'_succ, List.map_cons] at hL
        have HL := hide hL
        have HLn : Hid (backOf false < (((j : Int) :: (List.range' (j + 1) d).map (fun i : Nat => (i : Int))).length : Int)) := hide (by simp [backOf]; omega)
        have HGR := hide (ex_grab j (by omega))
        clear hL
        go_wp2_with fail
        refine (take_yes HT4.out false j _ HL.out HLn.out).mono ?_
        rintro e w5 ⟨rfl, ht, hk⟩
        rw [HGR.out] at ht
        have HT5 := hide ht
        have HG5 := hide (HG4.out.kept hk (by simpa using hpV.out))
        have HK5 := hide (HK4.out.trans hk (by simp; exact hVw.out))
        clear ht hk
        go_wp2
        go_roundw
        case rel => exact ⟨j + 1, j + 1, by omega, by omega, by go_num, by go_num, HT5, HG5, HK5⟩
        case measure => simp [intOf]; omega
      · obtain rfl : j = 6 := by omega
        have HL : Hid (((inState (taken 6) 0 (taken 6).length).length : Int) ≤ backOf false) := hide (by rw [ex_free 6 (by omega)]; decide)
        go_wp2_with fail
        refine (take_no HT4.out false HL.out).mono ?_
        rintro e w5 ⟨rfl, hk⟩
        have HT5 := hide (HT4.out.keep hk)
        have HG5 := hide (HG4.out.kept hk)
        have HK5 := hide (HK4.out.trans hk (by simp))
        clear hk
        go_wp2
        go_roundw
        case rel => exact ⟨k + 1, 6, by omega, by omega, by go_num, rfl, HT5, HG5, HK5⟩
        case measure => simp [intOf]; omega
    · obtain rfl : k = 8 := by omega
      obtain rfl : j = 6 := by omega
      clear HT HG3 HK3
      have HGR := hide (ex_grab 6 (by omega))
      go_wp2_with fail
      refine (take_yes HT4.out true 6 [7] (by decide) (by decide)).mono ?_
      rintro e w5 ⟨rfl, ht, hk⟩
      rw [show grabOf (taken 6) 6 = taken 7 from HGR.out] at ht
      have HT5 := hide ht
      have HG5 := hide (HG4.out.kept hk (by simpa using hpV.out))
      have HK5 := hide (HK4.out.trans hk (by simp; exact hVw.out))
      clear ht hk
      go_wp2_with fail
      refine (shut_any HT5.out 0).mono ?_
      rintro e w6 ⟨rfl, ht, hk⟩
      rw [ex_shut] at ht
      have HT6 := hide ht
      have HG6 := hide (HG5.out.kept hk (by simpa using hpV.out))
      have HK6 := hide (HK5.out.trans hk (by simp; exact hVw.out))
      clear ht hk
      go_wp2_with fail
      refine (sealed_any _ exA (by decide) 9 _ (.inr ⟨t, V, 4, 8, 24, 2, 1, rfl, HT6.out⟩)).mono ?_
      rintro e w7 ⟨v, rfl, ho, hk⟩
      rw [ex_sealed] at ho
      obtain ⟨A7, c7, rfl, _, hv⟩ := owns.own_read ho
      have HV7 := hide (hv [] (by simp))
      have HT7 := hide (HT6.out.keep hk)
      have HG7 := hide (HG6.out.kept hk)
      have HK7 := hide (HK6.out.trans hk (by simp))
      clear ho hv hk
      rw [show (([0] : List Int).take (9 : Int).toNat) = [0] from rfl] at HV7
      rw [show (([0] : List Int).take (9 : Int).toNat).length = 1 from rfl]
      have hv8 : Vals (w7.alloc (.cells #[.int .i64 0] 3)) [] (some ⟨w7.heap.size, 0, none⟩) ([(0 : Int)].map I) := vals_one w7 [] 0 _ (by simp)
      have HV8 := hide hv8
      have HV78 := hide (HV7.out.kept ((Kept.refl [] w7).alloc (.cells #[.int .i64 0] 3)) (by simp))
      have HT8 := hide (HT7.out.keep ((Kept.refl [] w7).alloc (.cells #[.int .i64 0] 3)))
      have HG8 := hide (HG7.out.kept ((Kept.refl [] w7).alloc (.cells #[.int .i64 0] 3)))
      have HK8 := hide (HK7.out.alloc (.cells #[.int .i64 0] 3))
      clear hv8
      go_wp2_with fail
      refine (pg.ints_any _ _ 1 1 _ _ [0] [0] _ rfl rfl HV78.out HV8.out (by omega)).mono ?_
      rintro e w9 ⟨rfl, hk⟩
      have HT9 := hide (HT8.out.keep hk)
      have HG9 := hide (HG8.out.kept hk)
      have HK9 := hide (HK8.out.trans hk (by simp))
      rw [decide_eq_true (rfl : ([0] : List Int) = [0])]
      clear hk
      go_wp2_with fail
      refine (seg_any p 4 8 24 2 1 0 _ HG9.out).mono ?_
      rintro e wa ⟨rfl, hk⟩
      rw [show segAt 8 24 2 1 0 = 10 from rfl]
      have HTa := hide (HT9.out.keep hk)
      have HGa := hide (HG9.out.kept hk)
      have HKa := hide (HK9.out.trans hk (by simp))
      clear hk
      go_wp2_with fail
      refine (add_any HTa.out 13 1 (by omega)).mono ?_
      rintro e wb ⟨rfl, ht, hk⟩
      rw [decide_eq_true ex_in]
      rw [ex_add] at ht
      have HTb := hide ht
      have HGb := hide (HGa.out.kept hk (by simpa using hpV.out))
      have HKb := hide (HKa.out.trans hk (by simp; exact hVw.out))
      clear ht hk
      go_wp2_with fail
      refine (release_any t V 4 8 24 2 1 exB _ HTb.out).mono ?_
      rintro e wc ⟨Ac, cc, rfl, _, ht, hk⟩
      rw [ex_dead]
      rw [ex_same] at ht
      have HTc := hide ht
      have HGc := hide (HGb.out.kept hk (by simpa using hpV.out))
      have HKc := hide (HKb.out.trans hk (by simp; exact hVw.out))
      clear ht hk
      go_wp2_with fail
      refine (seg_any p 4 8 24 2 1 0 _ HGc.out).mono ?_
      rintro e wd ⟨rfl, hk⟩
      rw [show segAt 8 24 2 1 0 = 10 from rfl]
      have HTd := hide (HTc.out.keep hk)
      have HKd := hide (HKc.out.trans hk (by simp))
      clear hk
      go_wp2_with fail
      refine (add_any HTd.out 13 (-1) (by omega)).mono ?_
      rintro e we ⟨rfl, ht, hk⟩
      rw [ex_less] at ht
      have HTe := hide ht
      have HKe := hide (HKd.out.trans hk (by simp; exact hVw.out))
      clear ht hk
      go_wp2_with fail
      refine (release_any t V 4 8 24 2 1 exA _ HTe.out).mono ?_
      rintro e wf ⟨Af, cf, rfl, hv, ht, hk⟩
      rw [ex_gone]
      rw [ex_gone] at hv
      rw [ex_back] at ht
      obtain ⟨ad, rfl, _, hc0⟩ := hv [] (by simp) 0 (I 0) rfl
      rw [show ad.add 0 = ad from rfl] at hc0
      unfold I at hc0
      have HTf := hide ht
      have HKf := hide (HKe.out.trans hk (by simp; exact hVw.out))
      have hl1 : (([0] : List Int).length : Int) = 1 := rfl
      rw [show ([0] : List Int).length = 1 from rfl]
      clear ht hk hv
      go_wp2_with fail
      refine (free_any _ exC (by decide) _ (.inr ⟨t, V, 4, 8, 24, 2, 1, rfl, HTf.out⟩)).mono ?_
      rintro e wg ⟨rfl, hk⟩
      rw [ex_two, show (([0, 7] : List Int).length : Int) = 2 from rfl]
      have HKg := hide (HKf.out.trans hk (by simp))
      clear hk
      go_wp2_with fail
      refine (free_any none [] (by simp) _ (.inl ⟨rfl, rfl⟩)).mono ?_
      rintro e wh ⟨rfl, hk⟩
      rw [show ((inState [] 0 ([] : List Rw).length).length : Int) = 0 from rfl]
      have HKh := hide (HKg.out.trans hk (by simp))
      clear hk
      go_wp2
      go_ret
      exact ⟨rfl, HKh.out⟩
end Go.Proofs.Ytjcnndnipnkhoaa.us
