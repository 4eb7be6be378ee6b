/-
  The given statement PagedPagesSaid is proved: whatever the arguments are, the law returns true and leaves its input as it was. No conditions.
-/
import Derived.Test.YtfiddfanekblmaaShapes
import Derived.Test.YtfiddfanekblmaaSlabs
import Derived.Test.YtfiddfanekblmaaPagedOuts
import Derived.Test.YtfiddfanekblmaaPagedAtInt
import Derived.Test.YtfiddfanekblmaaPagedAtStr
import Derived.Test.YtfiddfanekblmaaPagedDirtStr
import Derived.Test.YtfiddfanekblmaaOwns
import Derived.WalkKit
import Derived.ProofKit
import Derived.OpenShut
import Derived.ShutString
import Derived.ChangeOld
import Derived.Below
namespace Go.Proofs.Ytfiddfanekblmaa.pagedPages
open Go.ChangeShapes Go.WideShapes Go.ChangeAt Go.RowKit
open Go.ChangeMaps (open_string shut_string)
open Go.Proofs.Ytfiddfanekblmaa.mem Go.Proofs.Ytfiddfanekblmaa.base Go.Proofs.Ytfiddfanekblmaa.pd Go.Proofs.Ytfiddfanekblmaa.pg Go.Proofs.Ytfiddfanekblmaa.owns
set_option linter.unusedVariables false

theorem own : ownKnob Try.prog.godebug = none := by kernel_rfl
theorem laidOut : laidOutB Try.prog = true := by kernel_rfl

theorem step_take (l : List Int) (n per k m : Nat) (hl : l.length = n) (hk : k * per < n) (hm : min (k * per + per) n - k * per = m) : l.take (min (k * per) n) ++ (l.drop (k * per)).take m = l.take (min ((k + 1) * per) n) := by
  rw [Nat.min_eq_left (Nat.le_of_lt hk), Nat.add_mul, Nat.one_mul]
  have e : min (k * per + per) n = k * per + m := by omega
  rw [e, List.take_add]

set_option maxRecDepth 100000 in
set_option maxHeartbeats 2000000 in
theorem walk (a0 : Int) (a1 : Int) (a2 : Option Addr) (len2 cap2 : Nat) (l2 : List (List Int)) (w : World) (w0 : (Lit.int .i64 a0).wf = true) (w1 : (Lit.int .i64 a1).wf = true) (w2 : Slab w 2 a2 l2) (e2 : l2.length = len2) (b2 : len2 ≤ cap2 ∧ cap2 ≤ maxLen) :
    Calls Try.prog 4 #[.int .i64 a0, .int .i64 a1, .slice a2 len2 cap2] w fun e w' => e = .returned (.bool true) ∧ Below w.heap.size w w' := by
  by_cases hout : a0 < 1 ∨ 200 < a0 ∨ a1 < 1 ∨ 300 < a1 ∨ 50 < len2
  · exact pages_out a0 a1 a2 len2 cap2 w hout
  obtain ⟨n, rfl⟩ := Int.eq_ofNat_of_zero_le (show 0 ≤ a0 by omega)
  obtain ⟨per, rfl⟩ := Int.eq_ofNat_of_zero_le (show 0 ≤ a1 by omega)
  have hn1 : 1 ≤ n := by omega
  have hn2 : n ≤ 200 := by omega
  have hp1 : 1 ≤ per := by omega
  have hp2 : per ≤ 300 := by omega
  have hl2 : len2 ≤ 50 := by omega
  have HSL := hide w2
  have HE2 := hide e2
  clear w2 e2 b2 hout
  go_enter Try.func4, Try.ntmps4
  go_wp2_with fail
  refine (new_int_at n per 7 _ n per _ rfl rfl hn1 (by omega) hp1 (by omega) rfl).mono ?_
  rintro e w1 ⟨p, V, D, rfl, hp, hV, hD, hP, hk⟩
  have HP := hide hP
  have HK := hide hk
  have HV := hide hV
  have HD := hide hD
  have Hp := hide hp
  clear hP hk hp hV hD
  go_wp2
  go_loopw [8] (fun i wr => ∃ (k : Nat) (vs : List Int) (ds : List Bool), k ≤ len2 ∧ i = .int .i64 k ∧ Hid (vs.length = n) ∧ Hid (Pint wr p V D per (vs.map I) ds) ∧ Hid (Kept [] w wr)) (fun i wr => len2 - (intOf i).toNat)
  case atStart => exact ⟨0, _, _, Nat.zero_le _, rfl, hide (by simp), HP, HK⟩
  case round =>
    obtain ⟨k, vs, ds, hk, rfl, HN, HP, HK⟩ := hrel
    by_cases hlt : k < len2
    · obtain ⟨ad, x, y, rfl, hxy, c0, c1⟩ := slab_pair (Slab.kept HSL.out HK.out) (i := k) (by rw [HE2.out]; exact hlt)
      have hlow := slab_low HSL.out (i := k) (by rw [HE2.out]; exact hlt) rfl
      rw [add_next] at c1
      have HS0 := hide (show Kept [V, D] wr wr ∧ wr.cell? (ad.add (k * 2)) = some (.int .i64 x) ∧ wr.cell? ⟨(ad.add (k * 2)).block, (ad.add (k * 2)).off + 1, none⟩ = some (.int .i64 y) from ⟨Kept.refl _ _, c0, c1⟩)
      have HLO : Hid ((ad.add (k * 2)).block ∉ [V, D]) := hide (by
        have h1 := HV.out
        have h2 := HD.out
        simp only [List.mem_cons, List.not_mem_nil, or_false]
        omega)
      obtain ⟨r, hr, hrn⟩ : ∃ r : Nat, x % (n : Int) = r ∧ r < n := ⟨(x % (n : Int)).toNat, by have := Int.emod_nonneg x (show (n : Int) ≠ 0 by omega); omega, by have := Int.emod_lt_of_pos x (show (0 : Int) < n by omega); have := Int.emod_nonneg x (show (n : Int) ≠ 0 by omega); omega⟩
      have HR := hide hr
      obtain ⟨o, ho⟩ : ∃ o, vs[r]? = some o := ⟨_, List.getElem?_eq_getElem (by rw [HN.out]; exact hrn)⟩
      have HO := hide ho
      clear c0 c1 hlow hr ho hxy
      go_wp2
      go_region_held3 (fun W => Kept [V, D] wr W ∧ W.cell? (ad.add (k * 2)) = some (.int .i64 x) ∧ W.cell? ⟨(ad.add (k * 2)).block, (ad.add (k * 2)).off + 1, none⟩ = some (.int .i64 y))
        (first | exact ⟨HS0.out.1.drew, HS0.out.2⟩ | exact held_pair (by assumption) hk2 HLO.out HLO.out | assumption)
        (first
          | (go_at_call 20; refine (round_any x n _ (by omega) (by omega)).mono ?_; rintro e wn ⟨rfl, rfl⟩; rw [HR.out])
          | (go_at_call 13; refine (set_int_at (HP.out.keep ((Kept.refl [] wr).drew)) r r rfl o y HO.out _ rfl).mono ?_; rintro e wn ⟨rfl, hP2, hk2⟩))
      have hS := ‹Kept [V, D] wr _ ∧ _›
      have HP2 := hide hP2
      have HK2 := hide (kept_under HK.out hS.1 (fun i hi => by
        simp at hi
        rcases hi with rfl | rfl
        · exact HV.out
        · exact HD.out))
      have HN2 : Hid ((vs.set r y).length = n) := hide (by rw [List.length_set]; exact HN.out)
      clear hS hP2 hk2
      go_wp2
      go_roundw
      case rel => exact ⟨k + 1, _, _, by omega, by go_num, HN2, HP2, HK2⟩
      case measure => simp [intOf]; omega
    · obtain rfl : k = len2 := by omega
      obtain ⟨m, hm⟩ : ∃ m, ds.length = m := ⟨_, rfl⟩
      have hall := pint_all HP.out
      have hm1 := HP.out.m1
      have hm2 := HP.out.m2
      rw [hm] at hall hm1 hm2
      rw [HN.out] at hall
      have HM := hide hm
      have HALL := hide hall
      have HLW : Hid (p < wr.heap.size ∧ V < wr.heap.size ∧ D < wr.heap.size) := hide ⟨HP.out.pl, HP.out.Vl, HP.out.Dl⟩
      have HKW := HK
      have HK0 : Hid (Kept [] wr wr) := hide (Kept.refl _ _)
      clear hm hall HK
      generalize wr = w2 at *
      go_wp2
      go_loopw [9, 10] (fun lv i wr => ∃ k : Nat, k ≤ m ∧ i = .int .i64 k ∧ Hid (wr.ownsRow w2.heap.size 3 1 lv (min (k * per) n) ((vs.take (min (k * per) n)).map I)) ∧ Hid (Pint wr p V D per (vs.map I) ds) ∧ Hid (Kept [] w2 wr)) (fun _ i _ => m - (intOf i).toNat)
      case atStart => exact ⟨0, Nat.zero_le _, rfl, hide (by simp; exact ownsRow_nil_ _ _ _), HP, HK0⟩
      case round =>
        obtain ⟨k, hk, rfl, HL, HP, HK⟩ := hrel
        have HPG : Hid (Calls Try.prog 11 #[.pointer (some ⟨p, 0, none⟩)] wr fun e w' => e = .returned (.int .i64 m) ∧ wr = w') := hide (by have := pages_int HP.out; rwa [HM.out] at this)
        by_cases hlt : k < m
        · obtain ⟨b, hb⟩ : ∃ b, k * per = b := ⟨_, rfl⟩
          have hbn := HP.out.starts (k := k) (by rw [HM.out]; exact hlt)
          rw [hb, List.length_map, HN.out] at hbn
          obtain ⟨mm, hmm⟩ : ∃ mm, min (b + per) n - b = mm := ⟨_, rfl⟩
          have hmm1 : 1 ≤ mm := by omega
          have hmm2 : mm ≤ per := by omega
          have hmm3 : b + mm ≤ n := by omega
          have hfull : k < m - 1 → mm = per := fun h => by
            have h1 := HP.out.starts (k := k + 1) (by rw [HM.out]; omega)
            rw [List.length_map, HN.out, Nat.add_mul, Nat.one_mul, hb] at h1
            omega
          have hkk : (k + 1) * per = b + per := by rw [Nat.add_mul, Nat.one_mul, hb]
          have HQ1 : Hid (min (k * per) n = b) := hide (by rw [hb]; omega)
          have HQ2 : Hid (min ((k + 1) * per) n = b + mm) := hide (by rw [hkk]; omega)
          have HTK : Hid ((vs.take b).map I ++ (((vs.map I).drop b).take mm) = (vs.take (min ((k + 1) * per) n)).map I) := hide (by
            rw [HQ2.out, ← List.map_drop, ← List.map_take, ← List.map_append, ← List.take_add])
          have HPY := hide (pageOf_yes HP.out (oneCell_map vs) k (by rw [HM.out]; exact hlt) b mm hb (by rw [List.length_map, HN.out]; exact hmm))
          rw [HQ1.out] at HL
          have HFU := hide hfull
          have hmi : (1 : Int) ≤ (mm : Int) := by omega
          have hmi2 : (mm : Int) ≤ (per : Int) := by omega
          have hpls := HP.out.pl
          have hVls := HP.out.Vl
          have hDls := HP.out.Dl
          have HPL := hide hpls
          have HVL := hide hVls
          have HDL := hide hDls
          clear hb hmm hfull hkk hpls hVls hDls
          go_wp2_with fail
          refine HPG.out.mono ?_
          rintro e w3 ⟨rfl, rfl⟩
          go_wp2_with fail
          refine HPY.out.mono ?_
          rintro e w4 ⟨xv, rfl, hxo, hk4⟩
          obtain ⟨g, cap, rfl, hg⟩ : ∃ g cap, xv = .slice (some ⟨g, 0, none⟩) mm cap ∧ wr.heap.size ≤ g := by
            rcases hxo.2 with ⟨_, h0⟩ | ⟨g, cap, cur, rfl, hb, _⟩
            · omega
            · exact ⟨g, cap, rfl, hb⟩
          have HXO := hide hxo
          have HG := hide hg
          have HK4 := hide hk4
          have HP4 := hide (HP.out.keep hk4)
          have HL4 := hide (own_keep HL.out hk4 (by simp))
          have HPG4 : Hid (Calls Try.prog 11 #[.pointer (some ⟨p, 0, none⟩)] w4 fun e w' => e = .returned (.int .i64 m) ∧ w4 = w') := hide (by have := pages_int HP4.out; rwa [HM.out] at this)
          have HGL : Hid (g < w4.heap.size) := hide ((own_blk hxo g (by simp [Value.ownBlock])).2.1)
          obtain ⟨LA, lc, hlv, hlc⟩ : ∃ A c, u9 = .slice A b c ∧ True := by
            obtain ⟨A, c, h, _⟩ := own_slice HL.out
            exact ⟨A, c, h, trivial⟩
          have HLB : Hid (∀ i ∈ u9.ownBlock.toList, i < wr.heap.size) := hide (fun i hi => (own_blk HL.out i hi).2.1)
          subst hlv
          obtain ⟨XA, xc, hxr, _, hxv⟩ := own_read HXO.out
          cases hxr
          have HXV := hide (hxv [] (by simp))
          have HXL : Hid ((((vs.map I).drop b).take mm).length = mm * 1) := hide HXO.out.1
          have HX1 := hide (part_oneCell (oneCell_map vs) b mm)
          have HPD : Hid (p ∉ (Value.slice LA b lc).ownBlock.toList ∧ V ∉ (Value.slice LA b lc).ownBlock.toList ∧ D ∉ (Value.slice LA b lc).ownBlock.toList) := hide ⟨fun h => by have := (own_blk HL4.out _ h).1; have := HLW.out; omega, fun h => by have := (own_blk HL4.out _ h).1; have := HLW.out; omega, fun h => by have := (own_blk HL4.out _ h).1; have := HLW.out; omega⟩
          have HG2 : Hid (w2.heap.size ≤ g) := hide (Nat.le_trans HK.out.size hg)
          have HPG3 : Hid (p ≠ g ∧ V ≠ g ∧ D ≠ g) := hide ⟨by have := HPL.out; omega, by have := HVL.out; omega, by have := HDL.out; omega⟩
          have HXS : Hid ((((vs.map I).drop b).take mm) = (((vs.drop b).take mm).map I)) := hide (by rw [List.map_take, List.map_drop])
          have HSZ : Hid (w2.heap.size ≤ w4.heap.size) := hide (Nat.le_trans HK.out.size HK4.out.size)
          have HW : Hid (Kept [] w2 w4) := hide (HK.out.trans HK4.out (by simp))
          have hmx : b + mm ≤ maxLen := by simp only [maxLen]; omega
          clear hxo hg hk4 hxv hlc
          by_cases hlast : k < m - 1
          · skip
            have hlastI : (k : Int) < (m : Int) - 1 := by omega
            have hmp : ((mm : Int) != (per : Int)) = false := by rw [bne_eq_false_iff_eq]; have := HFU.out hlast; omega
            go_wp2_with fail
            refine HPG4.out.mono ?_
            rintro e w5 ⟨rfl, rfl⟩
            go_wp2_with (
              with_reducible refine wpList_append_vals (o := ⟨some 94, _, _, _, _, _⟩) ?_ (.tmp 92) (.tmp 93) 29 ?_ w2.heap.size 3 (.int .i64 0) 1 8 Try.underlying29 int_info ?_ (by omega) (.slice LA b lc) b ((vs.take b).map I) ?_ HL4.out [] (some ⟨g, 0, none⟩) mm cap (((vs.map I).drop b).take mm) ?_ HXL.out HXV.out HX1.out hmx (by omega) HSZ.out ?_
              · rfl
              · rfl
              · rfl
              · rfl
              · rfl
              intro lv2 w6 hown hk6 hat6
              have hgn : g ∉ (Value.slice LA b lc).ownBlock.toList := fun hm => by
                have := HLB.out g hm
                have := HG.out
                omega
              have hgn2 : g ∉ lv2.ownBlock.toList := fun hm => by
                rcases hat6 with h | h
                · rw [h] at hm
                  exact hgn hm
                · rw [h] at hm
                  simp at hm
                  have := HGL.out
                  omega
              have hlow : ∀ i ∈ (Value.slice LA b lc).ownBlock.toList, w2.heap.size ≤ i := fun i hi => (own_blk HL4.out i hi).1
              have HOW : Hid (w6.ownsRow w2.heap.size 3 1 lv2 (min ((k + 1) * per) n) ((vs.take (min ((k + 1) * per) n)).map I)) := hide (by rw [HTK.out, ← HQ2.out] at hown; exact hown)
              have hlow2 : p ∉ (Value.slice LA b lc).ownBlock.toList ∧ V ∉ (Value.slice LA b lc).ownBlock.toList ∧ D ∉ (Value.slice LA b lc).ownBlock.toList := HPD.out
              have HP6 := hide (HP4.out.kept hk6 hlow2.1 hlow2.2.1 hlow2.2.2)
              have HW6 : Hid (Kept [] w2 w6) := hide (HW.out.trans hk6 (fun i hi => .inr (hlow i hi)))
              have HX6 := hide (own_low (own_keep HXO.out hk6 (fun i hi => by
                simp [Value.ownBlock]
                rintro rfl
                exact hgn hi)) (Nat.zero_le _))
              rw [HXS.out] at HX6
              have HGN := hide hgn2
              clear hown hk6 hat6 hgn hgn2 hlow hlow2)
            go_loopw [12] (fun i wr => ∃ (j : Nat) (xs : List Int), j ≤ mm ∧ i = .int .i64 j ∧ Hid (xs.length = mm) ∧ Hid (wr.ownsRow 0 3 1 (.slice (some ⟨g, 0, none⟩) mm cap) mm (xs.map I)) ∧ Hid (wr.ownsRow w2.heap.size 3 1 lv2 (min ((k + 1) * per) n) ((vs.take (min ((k + 1) * per) n)).map I)) ∧ Hid (Pint wr p V D per (vs.map I) ds) ∧ Hid (Kept [] w2 wr)) (fun i _ => mm - (intOf i).toNat)
            case atStart => exact ⟨0, _, Nat.zero_le _, rfl, hide (by have := HXL.out; rw [HXS.out, List.length_map, Nat.mul_one] at this; exact this), HX6, HOW, HP6, HW6⟩
            case round =>
              obtain ⟨j, xs, hj, rfl, HXN, HXR, HLR, HPR, HKR⟩ := hrel
              by_cases hjl : j < mm
              · obtain ⟨x, hx⟩ : ∃ x, xs[j]? = some x := ⟨_, List.getElem?_eq_getElem (by rw [HXN.out]; exact hjl)⟩
                obtain ⟨cx, fx⟩ := own_cell HXR.out (i := j) (v := I x) (by rw [List.getElem?_map, hx]; rfl)
                unfold I at cx
                obtain ⟨y, hy⟩ : ∃ y, wrap64 (x + 1) = y := ⟨_, rfl⟩
                have hj0 : (0 : Int) ≤ j := by omega
                have hj1 : (j : Int) < (mm : Int) := by omega
                have HX7 : Hid ((wr.setCell ⟨g, j, none⟩ (.int .i64 y)).ownsRow 0 3 1 (.slice (some ⟨g, 0, none⟩) mm cap) mm ((xs.set j y).map I)) := hide (by rw [List.map_set]; exact own_set HXR.out j (I y))
                have hkg : Kept [g] wr (wr.setCell ⟨g, j, none⟩ (.int .i64 y)) := (Kept.refl _ wr).set_ (.inl (by simp)) j _
                have HL7 := hide (own_keep HLR.out hkg (fun i hi => by
                  simp at hi
                  rw [hi]
                  exact HGN.out))
                have HP7 := hide (HPR.out.kept hkg (by simpa using HPG3.out.1) (by simpa using HPG3.out.2.1) (by simpa using HPG3.out.2.2))
                have HK7 : Hid (Kept [] w2 (wr.setCell ⟨g, j, none⟩ (.int .i64 y))) := hide (HKR.out.set_ (.inr HG2.out) j _)
                have HN7 : Hid ((xs.set j y).length = mm) := hide (by rw [List.length_set]; exact HXN.out)
                clear hx hkg
                go_wp2
                go_roundw
                case rel => exact ⟨j + 1, _, by omega, by go_num, HN7, HX7, HL7, HP7, HK7⟩
                case measure => simp [intOf]; omega
              · obtain rfl : j = mm := by omega
                go_wp2
                go_roundw
                case rel => exact ⟨k + 1, by omega, by go_num, HLR, HPR, HKR⟩
                case measure => simp [intOf]; omega
          · skip
            have hlastI : ¬ (k : Int) < (m : Int) - 1 := by omega
            go_wp2_with fail
            refine HPG4.out.mono ?_
            rintro e w5 ⟨rfl, rfl⟩
            go_wp2_with (
              with_reducible refine wpList_append_vals (o := ⟨some 94, _, _, _, _, _⟩) ?_ (.tmp 92) (.tmp 93) 29 ?_ w2.heap.size 3 (.int .i64 0) 1 8 Try.underlying29 int_info ?_ (by omega) (.slice LA b lc) b ((vs.take b).map I) ?_ HL4.out [] (some ⟨g, 0, none⟩) mm cap (((vs.map I).drop b).take mm) ?_ HXL.out HXV.out HX1.out hmx (by omega) HSZ.out ?_
              · rfl
              · rfl
              · rfl
              · rfl
              · rfl
              intro lv2 w6 hown hk6 hat6
              have hgn : g ∉ (Value.slice LA b lc).ownBlock.toList := fun hm => by
                have := HLB.out g hm
                have := HG.out
                omega
              have hgn2 : g ∉ lv2.ownBlock.toList := fun hm => by
                rcases hat6 with h | h
                · rw [h] at hm
                  exact hgn hm
                · rw [h] at hm
                  simp at hm
                  have := HGL.out
                  omega
              have hlow : ∀ i ∈ (Value.slice LA b lc).ownBlock.toList, w2.heap.size ≤ i := fun i hi => (own_blk HL4.out i hi).1
              have HOW : Hid (w6.ownsRow w2.heap.size 3 1 lv2 (min ((k + 1) * per) n) ((vs.take (min ((k + 1) * per) n)).map I)) := hide (by rw [HTK.out, ← HQ2.out] at hown; exact hown)
              have hlow2 : p ∉ (Value.slice LA b lc).ownBlock.toList ∧ V ∉ (Value.slice LA b lc).ownBlock.toList ∧ D ∉ (Value.slice LA b lc).ownBlock.toList := HPD.out
              have HP6 := hide (HP4.out.kept hk6 hlow2.1 hlow2.2.1 hlow2.2.2)
              have HW6 : Hid (Kept [] w2 w6) := hide (HW.out.trans hk6 (fun i hi => .inr (hlow i hi)))
              have HX6 := hide (own_low (own_keep HXO.out hk6 (fun i hi => by
                simp [Value.ownBlock]
                rintro rfl
                exact hgn hi)) (Nat.zero_le _))
              rw [HXS.out] at HX6
              have HGN := hide hgn2
              clear hown hk6 hat6 hgn hgn2 hlow hlow2)
            go_loopw [12] (fun i wr => ∃ (j : Nat) (xs : List Int), j ≤ mm ∧ i = .int .i64 j ∧ Hid (xs.length = mm) ∧ Hid (wr.ownsRow 0 3 1 (.slice (some ⟨g, 0, none⟩) mm cap) mm (xs.map I)) ∧ Hid (wr.ownsRow w2.heap.size 3 1 lv2 (min ((k + 1) * per) n) ((vs.take (min ((k + 1) * per) n)).map I)) ∧ Hid (Pint wr p V D per (vs.map I) ds) ∧ Hid (Kept [] w2 wr)) (fun i _ => mm - (intOf i).toNat)
            case atStart => exact ⟨0, _, Nat.zero_le _, rfl, hide (by have := HXL.out; rw [HXS.out, List.length_map, Nat.mul_one] at this; exact this), HX6, HOW, HP6, HW6⟩
            case round =>
              obtain ⟨j, xs, hj, rfl, HXN, HXR, HLR, HPR, HKR⟩ := hrel
              by_cases hjl : j < mm
              · obtain ⟨x, hx⟩ : ∃ x, xs[j]? = some x := ⟨_, List.getElem?_eq_getElem (by rw [HXN.out]; exact hjl)⟩
                obtain ⟨cx, fx⟩ := own_cell HXR.out (i := j) (v := I x) (by rw [List.getElem?_map, hx]; rfl)
                unfold I at cx
                obtain ⟨y, hy⟩ : ∃ y, wrap64 (x + 1) = y := ⟨_, rfl⟩
                have hj0 : (0 : Int) ≤ j := by omega
                have hj1 : (j : Int) < (mm : Int) := by omega
                have HX7 : Hid ((wr.setCell ⟨g, j, none⟩ (.int .i64 y)).ownsRow 0 3 1 (.slice (some ⟨g, 0, none⟩) mm cap) mm ((xs.set j y).map I)) := hide (by rw [List.map_set]; exact own_set HXR.out j (I y))
                have hkg : Kept [g] wr (wr.setCell ⟨g, j, none⟩ (.int .i64 y)) := (Kept.refl _ wr).set_ (.inl (by simp)) j _
                have HL7 := hide (own_keep HLR.out hkg (fun i hi => by
                  simp at hi
                  rw [hi]
                  exact HGN.out))
                have HP7 := hide (HPR.out.kept hkg (by simpa using HPG3.out.1) (by simpa using HPG3.out.2.1) (by simpa using HPG3.out.2.2))
                have HK7 : Hid (Kept [] w2 (wr.setCell ⟨g, j, none⟩ (.int .i64 y))) := hide (HKR.out.set_ (.inr HG2.out) j _)
                have HN7 : Hid ((xs.set j y).length = mm) := hide (by rw [List.length_set]; exact HXN.out)
                clear hx hkg
                go_wp2
                go_roundw
                case rel => exact ⟨j + 1, _, by omega, by go_num, HN7, HX7, HL7, HP7, HK7⟩
                case measure => simp [intOf]; omega
              · obtain rfl : j = mm := by omega
                go_wp2
                go_roundw
                case rel => exact ⟨k + 1, by omega, by go_num, HLR, HPR, HKR⟩
                case measure => simp [intOf]; omega
        · obtain rfl : k = m := by omega
          have HQ : Hid (min (k * per) n = n) := hide (Nat.min_eq_right HALL.out)
          rw [HQ.out, List.take_of_length_le (by rw [HN.out]; exact Nat.le_refl _)] at HL
          go_wp2_with fail
          refine HPG.out.mono ?_
          rintro e w3 ⟨rfl, rfl⟩
          go_wp2_with fail
          have hall := all_any p V D per vs ds _ HP.out
          rw [HN.out] at hall
          refine hall.mono ?_
          clear hall
          rintro e w4 ⟨yv, rfl, hyo, hk4⟩
          obtain ⟨YA, yc, rfl, _, hyv⟩ := own_read hyo
          obtain ⟨LA, lc, rfl, _, hlv⟩ := own_read HL.out
          have HY := hide (hyv [] (by simp))
          have HV4 := hide ((hlv [] (by simp)).kept hk4 (by simp))
          have HK4 := hide ((HKW.out.trans HK.out (by simp)).trans hk4 (by simp))
          have HP4 := hide (HP.out.keep hk4)
          have hnn : ((n : Int) == (n : Int)) = true := by simp
          clear hyo hyv hlv hk4
          go_wp2_with fail
          refine (ints_any LA YA n n lc yc vs vs _ HN.out HN.out HV4.out HY.out (by omega)).mono ?_
          rintro e w5 ⟨rfl, hk5⟩
          rw [show decide (vs = vs) = true by simp]
          have HK5 := hide (HK4.out.trans hk5 (by simp))
          have HP5 := hide (HP4.out.keep hk5)
          have HPG5 : Hid (Calls Try.prog 11 #[.pointer (some ⟨p, 0, none⟩)] w5 fun e w' => e = .returned (.int .i64 k) ∧ w5 = w') := hide (by have := pages_int HP5.out; rwa [HM.out] at this)
          clear hk5
          go_wp2_with fail
          refine HPG5.out.mono ?_
          rintro e w6 ⟨rfl, rfl⟩
          go_wp2_with fail
          refine (pageOf_no HP5.out k (by rw [HM.out]; omega)).mono ?_
          rintro e w6 ⟨rfl, rfl⟩
          go_wp2_with fail
          refine (pageOf_no HP5.out (-1) (by omega)).mono ?_
          rintro e w6 ⟨rfl, rfl⟩
          go_wp2_with fail
          refine (awake_any _).mono ?_
          rintro e w7 ⟨rfl, hk7⟩
          have HK7 := hide ((HK5.out.trans hk7 (by simp)).below (by simp))
          clear hk7
          go_wp2
          go_ret
          exact ⟨rfl, HK7.out⟩

/-! ### the row's step, as the guide's skeleton has it -/
set_option maxRecDepth 100000 in
theorem lifted (os : Os) (started : os.Started) (H : Type) (enc : TypeId × Value → H) :
    ReturnsInHanded {} Try.checked os 4 .any (Rows.pagedPagesSpec.pre6 enc Try.prog Try.f4 Rows.pagedPagesRow.domain false) (Rows.pagedPagesSpec.post enc Try.prog Try.f4 false true false false) := by
  refine returnsInHanded_of_change (C := Try.checked) own started (by kernel_rfl) Try.func4
    (ChangeSpec.witness6 (enc := enc) (C := Try.checked) false ⟨#[], #[.int .i64 0, .int .i64 0, .slice none 0 0], []⟩ 8 (by kernel_rfl) (by kernel_rfl) (by kernel_rfl) (by kernel_rfl)) ?_
  intro W base args ds gs before hval0 hW hcnd _
  have hval : ∀ (j : Nat) t v, Try.f4.params[j]? = some t → args[j]? = some v → Value.okWide Try.prog W .any base t v := hval0
  have hW' := hW
  obtain ⟨p, q, hA0, hV, rfl, hfz, hnd⟩ := hW
  have hA : DataW.TrodAll enc Try.prog W 0 (fun _ => true) true Try.f4.params.toList args.toList ds p := hA0
  rw [Try.params4] at hA hval
  obtain ⟨v0, vs0, d0, ds0, p0, q0, hargs, rfl, rfl, h0, r0⟩ := trodAll_cons hA
  obtain ⟨v1, vs1, d1, ds1, p1, q1, rfl, rfl, rfl, h1, r1⟩ := trodAll_cons r0
  obtain ⟨v2, vs2, d2, ds2, p2, q2, rfl, rfl, rfl, h2, r2⟩ := trodAll_cons r1
  obtain ⟨rfl, rfl, rfl⟩ := trodAll_nil r2
  obtain rfl : args = #[v0, v1, v2] := by cases args; simp_all
  obtain ⟨rfl, rfl⟩ := trodVars_none hV
  obtain ⟨a0, rfl, rfl, rfl, w0⟩ := open_int Try.underlying3 (hval 0 3 v0 rfl rfl) h0
  obtain ⟨a1, rfl, rfl, rfl, w1⟩ := open_int Try.underlying3 (hval 1 3 v1 rfl rfl) h1
  obtain ⟨a2, len2, cap2, rfl⟩ := okWide_slice Try.underlying42 (hval 2 42 v2 rfl rfl)
  have k2 := h2
  have lt2 : ∀ x ∈ p2, x.block < W.heap.size := by obtain ⟨m, hm⟩ := k2; exact DataW.trod_lt m _ _ _ hm
  obtain ⟨l2, e2, w2, b2⟩ : ∃ l : List (List Int), l.length = len2 ∧ Slab W 2 a2 l ∧ len2 ≤ cap2 ∧ cap2 ≤ maxLen := by
    obtain ⟨fuel, hf⟩ := h2
    exact slab_of Try.underlying42 (by kernel_rfl) (fun _ cs x hl h => array_cells Try.underlying3 (by kernel_rfl) Try.underlying43 (by kernel_rfl) _ cs x hl h) hf
  clear hA0 hval0
  refine (walk a0 a1 a2 len2 cap2 l2 W w0 w1 w2 e2 b2).mono fun e W' ⟨he, bel⟩ => ?_
  subst he
  exact ⟨_, rfl, _, _, _, [], _, [], hW', trodAll_mk1 (shut_bool Try.underlying4 _), (trodAll_cons_mk (shut_int Try.underlying3 w0) (trodAll_cons_mk (shut_int Try.underlying3 w1) (trodAll_cons_mk (Below.trod laidOut (by kernel_rfl) (of_decide_eq_true (by kernel_rfl)) k2 bel lt2) trodAll_mk0))), rfl, bel.frame _, fun h => by cases h⟩

theorem over : Rows.pagedPagesRow.holds Try.pinned (OpenSpec.ofChange Rows.pagedPagesSpec) :=
  OpenClaim.holds_of_wide 4 Try.f4 rfl rfl rfl rfl rfl rfl rfl ⟨rfl, rfl, rfl, rfl, rfl⟩ rfl rfl rfl rfl rfl (by kernel_rfl) Try.func4 (by kernel_rfl)
    (of_decide_eq_true (by kernel_rfl)) (by unfold Func.isWrapper; first | (rw [if_pos (by decide +kernel)]; kernel_rfl) | (rw [if_neg (by decide +kernel)]; exact ⟨rfl, rfl⟩))
    (fun os started H enc _ => lifted os started H enc)

/-- The statement. -/
theorem proved : Rows.PagedPagesSaid := over
#print axioms proved
end Go.Proofs.Ytfiddfanekblmaa.pagedPages

