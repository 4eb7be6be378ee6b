/- The law's own example. -/
import Derived.Test.YtfiddfanekblmaaPagedAll
import Derived.Test.YtfiddfanekblmaaPagedDirty
import Derived.Test.YtfiddfanekblmaaPagedAtInt
import Derived.Test.YtfiddfanekblmaaPageAlike
namespace Go.Proofs.Ytfiddfanekblmaa.pd
set_option linter.unusedSimpArgs false
open Go.RowKit Go.Proofs.Ytfiddfanekblmaa.mem Go.Proofs.Ytfiddfanekblmaa.base Go.Proofs.Ytfiddfanekblmaa.pg

theorem kept_under {a b c : World} {S : List Nat} (h : Kept [] a b) (k : Kept S b c) (hs : ∀ i ∈ S, a.heap.size ≤ i) : Kept [] a c := h.trans k (fun i hi => .inr (hs i hi))

theorem dirty_at (P : Option Addr) (ds : List Bool) (hd : ds.length ≤ 65536) (most : Int) (w : World) (hP : IsPInt w P ds) (L : List Int) (hL : (markedInt ds ds.length).take most.toNat = L) :
    Calls Try.prog 18 #[.pointer P, .int .i64 most] w fun e w' => ∃ A c, e = .returned (.slice A L.length c) ∧ Vals w' [] A (L.map I) ∧ Kept [] w w' := by
  subst hL
  refine (dirty_any P ds hd most w hP).mono ?_
  rintro e w' ⟨v, rfl, ho, hk⟩
  obtain ⟨A, c, rfl, _, _, hv, _⟩ := own_slice ho
  exact ⟨A, c, rfl, hv [] (by simp), hk⟩

theorem oneCell_map (l : List Int) : ∀ u ∈ l.map I, u.oneCell' = true := oneCell_I l
theorem pageOf_at {w : World} {p V D per : Nat} {l : List Int} {ds : List Bool} (h : Pint w p V D per (l.map I) ds) (k : Int) (k' : Nat) (hk : k = k') (hkl : k' < ds.length) (b m : Nat) (hb : k' * per = b) (hm : min (b + per) l.length - b = m) (L : List Int) (hL : (l.drop b).take m = L) :
    Calls Try.prog 21 #[.pointer (some ⟨p, 0, none⟩), .int .i64 k] w fun e w' => ∃ A c, e = .returned (.slice A m c) ∧ Vals w' [] A (L.map I) ∧ Kept [] w w' := by
  subst hk hL
  refine (pageOf_yes h (oneCell_map l) k' hkl b m hb (by rw [List.length_map]; exact hm)).mono ?_
  rintro e w' ⟨v, rfl, ho, hk⟩
  obtain ⟨A, c, rfl, _, _, hv, _⟩ := own_slice ho
  refine ⟨A, c, rfl, ?_, hk⟩
  have := hv [] (by simp)
  rwa [← List.map_drop, ← List.map_take] at this

set_option maxRecDepth 100000 in
set_option maxHeartbeats 1000000 in
theorem awake_any (w : World) : Calls Try.prog 7 #[] w fun e w' => e = .returned (.bool true) ∧ Kept [] w w' := by
  go_enter Try.func7, Try.ntmps7
  go_wp2_with fail
  refine (new_int_at 5 2 0 _ 5 2 3 rfl rfl (by omega) (by omega) (by omega) (by omega) rfl).mono ?_
  rintro e w1 ⟨p, V, D, rfl, hp, hV, hD, hP, hk⟩
  have HP := hide hP
  have HK := hide hk
  have Hp := hide hp
  have HV := hide hV
  have HD := hide hD
  clear hP hk hp hV hD
  go_wp2_with fail
  refine (new_int_no 0 1 _ _ (by omega)).mono ?_
  rintro e w2 ⟨rfl, rfl⟩
  go_wp2_with fail
  refine (set_int_at HP.out 4 4 rfl 0 1 rfl [false, false, true] rfl).mono ?_
  rintro e w3 ⟨rfl, hP, hk⟩
  have HP3 := hide hP
  have HK3 := hide (kept_under HK.out hk (fun i hi => by
    simp at hi
    rcases hi with rfl | rfl
    · exact HV.out
    · exact HD.out))
  clear hP hk HP HK
  go_wp2_with fail
  refine (dirty_at (some ⟨p, 0, none⟩) [false, false, true] (by simp) 9 _ (.inr ⟨p, V, D, 2, _, rfl, HP3.out⟩) [2] (by decide)).mono ?_
  rintro e w4 ⟨A1, c1, rfl, hv1, hk⟩
  have HV1 := hide (hv1.kept ((Kept.refl [] w4).alloc (.cells #[.int .i64 2] 3)) (by simp))
  have HV2 : Hid (Vals (w4.alloc (.cells #[.int .i64 2] 3)) [] (some ⟨w4.heap.size, 0, none⟩) ([2].map I)) := hide (vals_one w4 [] 2 _ (by simp))
  have HK4 := hide ((HK3.out.trans hk (by simp)).alloc (.cells #[.int .i64 2] 3))
  have HP4 := hide ((HP3.out.keep hk).keep ((Kept.refl [] w4).alloc (.cells #[.int .i64 2] 3)))
  clear hv1 hk HP3 HK3
  go_wp2_with fail
  refine (ints_any A1 _ 1 1 c1 1 [2] [2] _ rfl rfl HV1.out HV2.out (by omega)).mono ?_
  rintro e w5 ⟨rfl, hk⟩
  have HK5 := hide (HK4.out.trans hk (by simp))
  have HP5 := hide (HP4.out.keep hk)
  clear hk HP4 HK4 HV1 HV2
  go_wp2_with fail
  refine (clean_int HP5.out).mono ?_
  rintro e w6 ⟨rfl, hP, hk⟩
  have HP6 := hide hP
  have HK6 := hide (kept_under HK5.out hk (fun i hi => by
    simp at hi
    subst hi
    exact HD.out))
  clear hk hP HP5 HK5
  go_wp2_with fail
  refine (set_int_at HP6.out 4 4 rfl 1 1 rfl _ rfl).mono ?_
  rintro e w7 ⟨rfl, hP, hk⟩
  have HP7 := hide hP
  have HK7 := hide (kept_under HK6.out hk (fun i hi => by
    simp at hi
    rcases hi with rfl | rfl
    · exact HV.out
    · exact HD.out))
  clear hP hk HP6 HK6
  go_wp2_with fail
  refine (dirty_at (some ⟨p, 0, none⟩) [false, false, false] (by simp) 9 _ (.inr ⟨p, V, D, 2, _, rfl, HP7.out⟩) [] (by decide)).mono ?_
  rintro e w8 ⟨A1, c1, rfl, _, hk⟩
  have HK8 := hide (HK7.out.trans hk (by simp))
  have HP8 := hide (HP7.out.keep hk)
  clear hk HP7 HK7
  go_wp2_with fail
  refine (get_int_at HP8.out 4 4 rfl 1 rfl).mono ?_
  rintro e w9 ⟨rfl, rfl⟩
  go_wp2_with fail
  refine (get_int_no HP8.out 5 (by simp)).mono ?_
  rintro e w9 ⟨rfl, rfl⟩
  go_wp2_with fail
  refine (pages_int HP8.out).mono ?_
  rintro e w9 ⟨rfl, rfl⟩
  go_wp2_with fail
  refine (len_int HP8.out).mono ?_
  rintro e w9 ⟨rfl, rfl⟩
  go_wp2_with fail
  refine (pageOf_at HP8.out 2 2 rfl (by decide) 4 1 rfl rfl [1] rfl).mono ?_
  rintro e w10 ⟨A1, c1, rfl, hv1, hk⟩
  have HV1 := hide (hv1.kept ((Kept.refl [] w10).alloc (.cells #[.int .i64 1] 3)) (by simp))
  have HV2 : Hid (Vals (w10.alloc (.cells #[.int .i64 1] 3)) [] (some ⟨w10.heap.size, 0, none⟩) ([1].map I)) := hide (vals_one w10 [] 1 _ (by simp))
  have HK10 := hide ((HK8.out.trans hk (by simp)).alloc (.cells #[.int .i64 1] 3))
  clear hv1 hk HP8 HK8
  go_wp2_with fail
  refine (ints_any A1 _ 1 1 c1 1 [1] [1] _ rfl rfl HV1.out HV2.out (by omega)).mono ?_
  rintro e w11 ⟨rfl, hk⟩
  have HK11 := hide (HK10.out.trans hk (by simp))
  clear hk HK10 HV1 HV2
  go_wp2_with fail
  refine (len_int_nil _).mono ?_
  rintro e w12 ⟨rfl, rfl⟩
  go_wp2_with fail
  refine (dirty_at none [] (by simp) 3 _ (.inl ⟨rfl, rfl⟩) [] (by decide)).mono ?_
  rintro e w13 ⟨A1, c1, rfl, _, hk⟩
  have HK13 := hide (HK11.out.trans hk (by simp))
  clear hk HK11
  go_wp2
  go_ret
  exact ⟨rfl, HK13.out⟩
end Go.Proofs.Ytfiddfanekblmaa.pd
