/-
  The given statement PagedTextsSaid is proved: whatever the arguments are, the law returns true and leaves its input as it was. No conditions.
-/
import Derived.Test.YtfiddfanekblmaaShapes
import Derived.Test.YtfiddfanekblmaaSlabs
import Derived.Test.YtfiddfanekblmaaPagedTextsOut
import Derived.Test.YtfiddfanekblmaaHeld
import Derived.Test.YtfiddfanekblmaaPagedAtInt
import Derived.Test.YtfiddfanekblmaaPagedAtStr
import Derived.Test.YtfiddfanekblmaaPagedDirtStr
import Derived.Test.YtfiddfanekblmaaOwns
import Derived.WalkKit
import Derived.ProofKit
import Derived.OpenShut
import Derived.ShutString
import Derived.ChangeOld
import Derived.Below
namespace Go.Proofs.Ytfiddfanekblmaa.pagedTexts
open Go.ChangeShapes Go.WideShapes Go.ChangeAt Go.RowKit
open Go.ChangeMaps (open_string shut_string)
open Go.Proofs.Ytfiddfanekblmaa.mem Go.Proofs.Ytfiddfanekblmaa.base Go.Proofs.Ytfiddfanekblmaa.pd Go.Proofs.Ytfiddfanekblmaa.pg Go.Proofs.Ytfiddfanekblmaa.owns
set_option linter.unusedVariables false

theorem own : ownKnob Try.prog.godebug = none := by kernel_rfl
theorem laidOut : laidOutB Try.prog = true := by kernel_rfl

attribute [local go_sem] Oper.semAt_some

/-- The four names. -/
def nmOf (k : Nat) : ByteArray := [(⟨#[]⟩ : ByteArray), ⟨#[97]⟩, ⟨#[98]⟩, ⟨#[99]⟩].getD k ⟨#[]⟩
theorem nm_inj (a b : Nat) (ha : a < 4) (hb : b < 4) (h : nmOf a = nmOf b) : a = b := by
  have h2 : (nmOf a).data = (nmOf b).data := by rw [h]
  match a, b, ha, hb with
  | 0, 0, _, _ => rfl
  | 1, 1, _, _ => rfl
  | 2, 2, _, _ => rfl
  | 3, 3, _, _ => rfl
  | 0, 1, _, _ => simp [nmOf] at h2
  | 0, 2, _, _ => simp [nmOf] at h2
  | 0, 3, _, _ => simp [nmOf] at h2
  | 1, 0, _, _ => simp [nmOf] at h2
  | 1, 2, _, _ => simp [nmOf] at h2
  | 1, 3, _, _ => simp [nmOf] at h2
  | 2, 0, _, _ => simp [nmOf] at h2
  | 2, 1, _, _ => simp [nmOf] at h2
  | 2, 3, _, _ => simp [nmOf] at h2
  | 3, 0, _, _ => simp [nmOf] at h2
  | 3, 1, _, _ => simp [nmOf] at h2
  | 3, 2, _, _ => simp [nmOf] at h2
theorem if_nm (a b : List Bool) (o v : Nat) (ho : o < 4) (hv : v < 4) : (if (o : Int) = (v : Int) then a else b) = if nmOf o = nmOf v then a else b := by
  by_cases h : o = v
  · subst h
    rw [if_pos rfl, if_pos rfl]
  · rw [if_neg (by omega), if_neg (fun e => h (nm_inj o v ho hv e))]
def nms : Array Value := #[.string ⟨#[]⟩, .string ⟨#[97]⟩, .string ⟨#[98]⟩, .string ⟨#[99]⟩]
theorem nm_cell {w : World} {g : Nat} {t : TypeId} (h : Blk w g t nms) (k : Nat) (hk : k < 4) : w.cell? ⟨g, k, none⟩ = some (.string (nmOf k)) := by
  rw [h.cell]
  match k, hk with
  | 0, _ => rfl
  | 1, _ => rfl
  | 2, _ => rfl
  | 3, _ => rfl

/-- The numbers, and the names. -/
def asInts (ks : List Nat) : List Int := ks.map fun (k : Nat) => (k : Int)
def asNames (ks : List Nat) : List ByteArray := ks.map nmOf
theorem asInts_set (ks : List Nat) (r v : Nat) : (asInts ks).set r (v : Int) = asInts (ks.set r v) := by simp [asInts, List.map_set]
theorem asNames_set (ks : List Nat) (r v : Nat) : (asNames ks).set r (nmOf v) = asNames (ks.set r v) := by simp [asNames, List.map_set]
theorem marked_same (ds : List Bool) (k : Nat) : markedStr ds k = markedInt ds k := rfl

set_option maxRecDepth 100000 in
set_option maxHeartbeats 2000000 in
theorem walk (a0 : Int) (a1 : Int) (a2 : Option Addr) (len2 cap2 : Nat) (l2 : List (List Int)) (w : World) (w0 : (Lit.int .i64 a0).wf = true) (w1 : (Lit.int .i64 a1).wf = true) (w2 : Slab w 2 a2 l2) (e2 : l2.length = len2) (b2 : len2 ≤ cap2 ∧ cap2 ≤ maxLen) :
    Calls Try.prog 6 #[.int .i64 a0, .int .i64 a1, .slice a2 len2 cap2] w fun e w' => e = .returned (.bool true) ∧ Below w.heap.size w w' := by
  by_cases hout : a0 < 1 ∨ 60 < a0 ∨ a1 < 1 ∨ 60 < a1 ∨ 40 < len2
  · exact texts_out a0 a1 a2 len2 cap2 w hout
  obtain ⟨n, rfl⟩ := Int.eq_ofNat_of_zero_le (show 0 ≤ a0 by omega)
  obtain ⟨per, rfl⟩ := Int.eq_ofNat_of_zero_le (show 0 ≤ a1 by omega)
  have hn1 : 1 ≤ n := by omega
  have hn2 : n ≤ 60 := by omega
  have hp1 : 1 ≤ per := by omega
  have hp2 : per ≤ 60 := by omega
  have hl2 : len2 ≤ 40 := by omega
  have HSL := hide w2
  have HE2 := hide e2
  clear w2 e2 b2 hout
  refine callsIn_wide.1 (callsIn_of_wp_marks (n := 3) Try.func6 rfl trivial (wpIn_wide.2 ?_) rfl)
  simp only [Try.ntmps6, List.size_toArray, List.length_cons, List.length_nil, Nat.reduceAdd, Nat.reduceSub, Array.replicate_succ, Array.replicate_zero, List.push_toArray, List.append_toArray, List.nil_append, List.cons_append]
  go_wp2_with fail
  have hN : Blk (w.alloc (.cells nms 9)) w.heap.size 9 nms := Blk.new _ _ _
  have hwn : (w.alloc (.cells nms 9)).heap.size = w.heap.size + 1 := World.size_alloc _ _
  have hkn : Kept [] w (w.alloc (.cells nms 9)) := (Kept.refl [] w).alloc _
  have hnu : w.alloc (.cells #[.string ⟨#[]⟩, .string ⟨#[97]⟩, .string ⟨#[98]⟩, .string ⟨#[99]⟩] 9) = w.alloc (.cells nms 9) := rfl
  rw [hnu]
  obtain ⟨w0', hw0'⟩ : ∃ x, w.alloc (.cells nms 9) = x := ⟨_, rfl⟩
  rw [hw0'] at hN hwn hkn ⊢
  have HN := hide hN
  have HWN := hide hwn
  have HKN := hide hkn
  clear hnu hw0' hN hwn hkn
  refine (new_int_at n per 0 _ n per _ rfl rfl hn1 (by omega) hp1 (by omega) rfl).mono ?_
  rintro e w1 ⟨p, V, D, rfl, hp, hV, hD, hP, hk⟩
  have HP := hide hP
  have HK := hide (HKN.out.trans hk (by simp))
  have HN1 := hide (hk.blk HN.out (by simp))
  have HL1 : Hid (w.heap.size < p ∧ w.heap.size < V ∧ w.heap.size < D) := hide (by have := HWN.out; omega)
  clear hP hk hp hV hD
  go_wp2_with fail
  refine (new_str_at n per ⟨#[]⟩ _ n per _ rfl rfl hn1 (by omega) hp1 (by omega) rfl).mono ?_
  rintro e w3 ⟨p', V', D', rfl, hp', hV', hD', hQ, hk⟩
  have HQ := hide hQ
  have HP3 := hide (HP.out.keep hk)
  have HK3 := hide (HK.out.trans hk (by simp))
  have HN3 := hide (hk.blk HN1.out (by simp))
  have HLO : Hid (w.heap.size < p ∧ w.heap.size < V ∧ w.heap.size < D ∧ w.heap.size < p' ∧ w.heap.size < V' ∧ w.heap.size < D') := hide (by have := HL1.out; have := HP.out.pl; omega)
  have HAP : Hid (w.heap.size ≠ V ∧ w.heap.size ≠ D ∧ w.heap.size ≠ V' ∧ w.heap.size ≠ D' ∧ p ≠ p' ∧ p ≠ V' ∧ p ≠ D' ∧ V ≠ p' ∧ V ≠ V' ∧ V ≠ D' ∧ D ≠ p' ∧ D ≠ V' ∧ D ≠ D') := hide (by have := HL1.out; have := HP.out.pl; have := HP.out.Vl; have := HP.out.Dl; omega)
  have HZ1 : Hid (List.replicate n (0 : Int) = asInts (List.replicate n 0)) := hide (by simp [asInts])
  have HZ2 : Hid (List.replicate n (⟨#[]⟩ : ByteArray) = asNames (List.replicate n 0)) := hide (by simp [asNames, nmOf])
  rw [HZ1.out] at HP3
  rw [HZ2.out] at HQ
  have HKL0 : Hid ((List.replicate n 0).length = n) := hide (by simp)
  have HKS0 : Hid (∀ x ∈ List.replicate n 0, x < 4) := hide (fun x hx => by rw [(List.mem_replicate.1 hx).2]; omega)
  clear hQ hk hp' hV' hD' HP HK HN HN1 HL1 HZ1 HZ2
  go_wp2
  go_loopw [10] (fun i wr => ∃ (k : Nat) (ks : List Nat) (ds : List Bool), k ≤ len2 ∧ i = .int .i64 k ∧ Hid (ks.length = n) ∧ Hid (∀ x ∈ ks, x < 4) ∧ Hid (Pint wr p V D per ((asInts ks).map I) ds) ∧ Hid (Pstr wr p' V' D' per ((asNames ks).map Value.string) ds) ∧ Hid (Blk wr w.heap.size 9 nms) ∧ Hid (Kept [] w wr)) (fun i wr => len2 - (intOf i).toNat)
  case atStart => exact ⟨0, _, _, Nat.zero_le _, rfl, HKL0, HKS0, HP3, HQ, HN3, HK3⟩
  case round =>
    obtain ⟨k, ks, ds, hk, rfl, HKN, HKM, HP, HQ, HN, HK⟩ := hrel
    by_cases hlt : k < len2
    · obtain ⟨ad, x, y, rfl, hxy, c0, c1⟩ := slab_pair (Slab.kept HSL.out HK.out) (i := k) (by rw [HE2.out]; exact hlt)
      rw [add_next] at c1
      have HSC := hide (show wr.cell? (ad.add (k * 2)) = some (.int .i64 x) ∧ wr.cell? ⟨(ad.add (k * 2)).block, (ad.add (k * 2)).off + 1, none⟩ = some (.int .i64 y) from ⟨c0, c1⟩)
      obtain ⟨r, hr, hrn⟩ : ∃ r : Nat, x % (n : Int) = r ∧ r < n := ⟨(x % (n : Int)).toNat, by have := Int.emod_nonneg x (show (n : Int) ≠ 0 by omega); omega, by have := Int.emod_lt_of_pos x (show (0 : Int) < n by omega); have := Int.emod_nonneg x (show (n : Int) ≠ 0 by omega); omega⟩
      obtain ⟨v, hv, hv4⟩ : ∃ v : Nat, y % 4 = v ∧ v < 4 := ⟨(y % 4).toNat, by omega, by omega⟩
      obtain ⟨o, ho⟩ : ∃ o, ks[r]? = some o := ⟨_, List.getElem?_eq_getElem (by rw [HKN.out]; exact hrn)⟩
      have HO4 := hide (HKM.out o (List.mem_of_getElem? ho))
      have HOI : Hid ((asInts ks)[r]? = some (o : Int)) := hide (by unfold asInts; rw [List.getElem?_map, ho]; rfl)
      have HON : Hid ((asNames ks)[r]? = some (nmOf o)) := hide (by unfold asNames; rw [List.getElem?_map, ho]; rfl)
      have HR := hide hr
      have HVV := hide hv
      have HKL : Hid ((ks.set r v).length = n) := hide (by rw [List.length_set]; exact HKN.out)
      have HKS : Hid (∀ x ∈ ks.set r v, x < 4) := hide (fun x hx => by
        rcases List.mem_or_eq_of_mem_set hx with h | h
        · exact HKM.out x h
        · omega)
      have hv0 : (0 : Int) ≤ v := by omega
      have hv1 : (v : Int) < 4 := by omega
      clear c0 c1 hr hv ho hxy
      go_wp2
      go_region_held3 (fun W => W.cell? (ad.add (k * 2)) = some (.int .i64 x) ∧ W.cell? ⟨(ad.add (k * 2)).block, (ad.add (k * 2)).off + 1, none⟩ = some (.int .i64 y))
        (first | exact HSC.out | assumption)
        (first
          | (go_at_call 20; refine (round_any x n _ (by omega) (by omega)).mono ?_; rintro e wn ⟨rfl, rfl⟩; rw [HR.out])
          | (go_at_call 20; refine (round_any y 4 _ (by omega) (by omega)).mono ?_; rintro e wn ⟨rfl, rfl⟩; rw [HVV.out]))
      obtain ⟨wd, hwd⟩ : ∃ wd, wr.drew = wd := ⟨_, rfl⟩
      have hkd : Kept [] wr wd := by rw [← hwd]; exact (Kept.refl [] wr).drew
      have HPd := hide (HP.out.keep hkd)
      have HQd := hide (HQ.out.keep hkd)
      have HNd := hide (hkd.blk HN.out (by simp))
      have HKd := hide (HK.out.trans hkd (by simp))
      rw [hwd]
      clear hwd hkd HP HQ HN HK HSC
      by_cases h7 : bits .and .i64 (k : Int) 7 = 7
      · skip
        go_wp2_with fail
        refine (clean_int HPd.out).mono ?_
        rintro e wc ⟨rfl, hPc, hkc⟩
        have HPc := hide hPc
        have HQc := hide (HQd.out.kept hkc (by have := HAP.out; simp; omega) (by have := HAP.out; simp; omega) (by have := HAP.out; simp; omega))
        have HNc := hide (hkc.blk HNd.out (by have := HAP.out; simp; omega))
        have HKc := hide (kept_under HKd.out hkc (fun i hi => by
          have := HLO.out
          simp at hi
          omega))
        clear hPc hkc
        go_wp2_with fail
        refine (clean_str HQc.out).mono ?_
        rintro e we ⟨rfl, hQe, hke⟩
        have HQe := hide hQe
        have HPe := hide (HPc.out.kept hke (by have := HAP.out; simp; omega) (by have := HAP.out; simp; omega) (by have := HAP.out; simp; omega))
        have HNe := hide (hke.blk HNc.out (by have := HAP.out; simp; omega))
        have HKe := hide (kept_under HKc.out hke (fun i hi => by
          have := HLO.out
          simp at hi
          omega))
        clear hQe hke
        go_wp2_with fail
        refine (set_int_at HPe.out r r rfl (o : Int) (v : Int) HOI.out _ rfl).mono ?_
        rintro e wa ⟨rfl, hPa, hka⟩
        have HPa := hide hPa
        have HQa := hide (HQe.out.kept hka (by have := HAP.out; simp; omega) (by have := HAP.out; simp; omega) (by have := HAP.out; simp; omega))
        have HNa := hide (hka.blk HNe.out (by have := HAP.out; simp; omega))
        have HKa := hide (kept_under HKe.out hka (fun i hi => by
          have := HLO.out
          simp at hi
          rcases hi with rfl | rfl <;> omega))
        have cn := nm_cell HNa.out v hv4
        clear hPa hka
        go_wp2_with fail
        refine (set_str_at HQa.out r r rfl (nmOf o) (nmOf v) HON.out (if (o : Int) = (v : Int) then List.replicate ds.length false else (List.replicate ds.length false).set (r / per) true) (if_nm _ _ o v HO4.out hv4)).mono ?_
        rintro e wb ⟨rfl, hQb, hkb⟩
        have HQb := hide hQb
        have HPb := hide (HPa.out.kept hkb (by have := HAP.out; simp; omega) (by have := HAP.out; simp; omega) (by have := HAP.out; simp; omega))
        have HNb := hide (hkb.blk HNa.out (by have := HAP.out; simp; omega))
        have HKb := hide (kept_under HKa.out hkb (fun i hi => by
          have := HLO.out
          simp at hi
          rcases hi with rfl | rfl <;> omega))
        rw [asInts_set] at HPb
        rw [asNames_set] at HQb
        clear hQb hkb
        go_wp2
        go_roundw
        case rel => exact ⟨k + 1, _, _, by omega, by go_num, HKL, HKS, HPb, HQb, HNb, HKb⟩
        case measure => simp [intOf]; omega
      · skip
        go_wp2_with fail
        refine (set_int_at HPd.out r r rfl (o : Int) (v : Int) HOI.out _ rfl).mono ?_
        rintro e wa ⟨rfl, hPa, hka⟩
        have HPa := hide hPa
        have HQa := hide (HQd.out.kept hka (by have := HAP.out; simp; omega) (by have := HAP.out; simp; omega) (by have := HAP.out; simp; omega))
        have HNa := hide (hka.blk HNd.out (by have := HAP.out; simp; omega))
        have HKa := hide (kept_under HKd.out hka (fun i hi => by
          have := HLO.out
          simp at hi
          rcases hi with rfl | rfl <;> omega))
        have cn := nm_cell HNa.out v hv4
        clear hPa hka
        go_wp2_with fail
        refine (set_str_at HQa.out r r rfl (nmOf o) (nmOf v) HON.out (if (o : Int) = (v : Int) then ds else (ds).set (r / per) true) (if_nm _ _ o v HO4.out hv4)).mono ?_
        rintro e wb ⟨rfl, hQb, hkb⟩
        have HQb := hide hQb
        have HPb := hide (HPa.out.kept hkb (by have := HAP.out; simp; omega) (by have := HAP.out; simp; omega) (by have := HAP.out; simp; omega))
        have HNb := hide (hkb.blk HNa.out (by have := HAP.out; simp; omega))
        have HKb := hide (kept_under HKa.out hkb (fun i hi => by
          have := HLO.out
          simp at hi
          rcases hi with rfl | rfl <;> omega))
        rw [asInts_set] at HPb
        rw [asNames_set] at HQb
        clear hQb hkb
        go_wp2
        go_roundw
        case rel => exact ⟨k + 1, _, _, by omega, by go_num, HKL, HKS, HPb, HQb, HNb, HKb⟩
        case measure => simp [intOf]; omega
    · obtain rfl : k = len2 := by omega
      generalize wr = w4 at *
      go_wp2
      go_loopw [13] (fun i wr => ∃ k : Nat, k ≤ n ∧ i = .int .i64 k ∧ wr = w4) (fun i wr => n - (intOf i).toNat)
      case atStart => exact ⟨0, Nat.zero_le _, rfl, rfl⟩
      case round =>
        obtain ⟨k, hk, rfl, rfl⟩ := hrel
        by_cases hlt : k < n
        · obtain ⟨v, hv⟩ : ∃ v, ks[k]? = some v := ⟨_, List.getElem?_eq_getElem (by rw [HKN.out]; exact hlt)⟩
          have hv4 := HKM.out v (List.mem_of_getElem? hv)
          have HGI : Hid ((asInts ks)[k]? = some (v : Int)) := hide (by unfold asInts; rw [List.getElem?_map, hv]; rfl)
          have HGN : Hid ((asNames ks)[k]? = some (nmOf v)) := hide (by unfold asNames; rw [List.getElem?_map, hv]; rfl)
          have cn := nm_cell HN.out v hv4
          have hv0 : (0 : Int) ≤ v := by omega
          have hv1 : (v : Int) < 4 := by omega
          have hv3 : (v : Int) ≤ 3 := by omega
          have hbe : ((nmOf v).toList == (nmOf v).toList) = true := by simp
          clear hv
          go_wp2_with fail
          refine (get_int_at HP.out k k rfl (v : Int) HGI.out).mono ?_
          rintro e wa ⟨rfl, rfl⟩
          go_wp2_with fail
          refine (get_str_at HQ.out k k rfl (nmOf v) HGN.out).mono ?_
          rintro e wa ⟨rfl, rfl⟩
          go_wp2
          go_roundw
          case rel => exact ⟨k + 1, by omega, by go_num, (by first | rfl | trivial)⟩
          case measure => simp [intOf]; omega
        · obtain rfl : k = n := by omega
          generalize wr = w5 at *
          have hnf : ∀ (f : Nat) (a b : Array Value) (W : World), (binOp .eql 56 (.func (.func f) a b) .nilFunc).run Try.prog W = .ok (.bool false) W := fun f a b W => by kernel_rfl
          obtain ⟨i0, hi, hz0, hz1, hz2⟩ := info_parts int_info
          have hBz : Below w5.heap.size w5 ((w5.alloc (.cells #[.slice none 0 0] 29)).alloc (.cells #[.pointer (some ⟨p', 0, none⟩)] 50)) := ((Below.refl _ w5).alloc (Nat.le_refl _) _).alloc (by rw [World.size_alloc]; omega) _
          have b0 := (Boxed.new w5 29 (.slice none 0 0)).alloc (.cells #[.pointer (some ⟨p', 0, none⟩)] 50)
          have b1 := Boxed.new (w5.alloc (.cells #[.slice none 0 0] 29)) 50 (.pointer (some ⟨p', 0, none⟩))
          rw [World.size_alloc] at b1
          have hS2 : ((w5.alloc (.cells #[.slice none 0 0] 29)).alloc (.cells #[.pointer (some ⟨p', 0, none⟩)] 50)).heap.size = w5.heap.size + 1 + 1 := by rw [World.size_alloc, World.size_alloc]
          have hdl := HP.out.m2
          have hpl := HQ.out.pl
          have hDl := HQ.out.Dl
          have HB0 := hide b0
          have HB1 := hide b1
          have HBZ := hide hBz
          have HS2 := hide hS2
          have hQz := HQ.out.keep (Kept.of_below hBz [])
          have HQZ := hide hQz
          clear b0 b1 hBz hS2 hQz
          go_wp2_with fail
          refine (dirt_str (some ⟨p', 0, none⟩) _).mono ?_
          rintro e wz ⟨rfl, rfl⟩
          go_wp2
          apply wpIn_wide.1
          have hS2 := HS2.out
          apply wpIn_rangeFunc_ownG (F := Fence.wide) (n := 3) rfl (by omega) (gf := 40) (lb := #[.pointer (some ⟨w5.heap.size + 1, 0, none⟩)]) rfl trivial (enters_of Try.func40 (by kernel_rfl) rfl)
            (walk_stops _ (w5.heap.size + 1) p' V' D' per _ ds _ (by rw [hS2]; omega) HB1.out.cell HQZ.out) Same.trans (same_b (by
              intro i hi
              rw [hS2]
              simp at hi
              omega)) (Below.refl _ _) (fun _ => rfl)
            (fun pre W => (∃ v, Boxed W w5.heap.size 29 v ∧ W.ownsRow (w5.heap.size + 1 + 1) 3 1 v pre.length (pre.map I) ∧ True) ∧ Below w5.heap.size ((w5.alloc (.cells #[.slice none 0 0] 29)).alloc (.cells #[.pointer (some ⟨p', 0, none⟩)] 50)) W)
            (fun (_ : Code) (_ : List Int) (_ : World) => False)
            (OwnFrom.and (Own.from (holdsRow_own (w5.heap.size + 1 + 1) w5.heap.size 29 3 1 (fun pre : List Int => pre.length) (fun pre => pre.map I) (fun _ _ => True)) _) (ownFrom_below (by rw [hS2]; omega) (by rw [hS2]; omega)))
            (fun _ _ _ _ _ hs _ _ => hs)
            ⟨⟨_, HB0.out, World.ownsRow_nil _ _ _ _, trivial⟩, Below.refl _ _⟩ _ ?assign ?body ?done ?stop
          case assign =>
            intro l x W K hK
            gi_wp2
            exact hK
          case body =>
            rintro l pre x W ⟨⟨v, hv, hrow, _⟩, hB⟩ hlt
            have hsz : w5.heap.size + 1 + 1 ≤ W.heap.size := by have := hB.size; rw [hS2] at this; exact this
            have hc := hv.cell
            gi_wp2_with (gi_at_builtin; refine wpListIn_append_own _ rfl _ _ 29 rfl (w5.heap.size + 1 + 1) 3 i0 (.int .i64 0) 1 8 Try.underlying29 hi hz0 hz1 hz2 rfl (by decide) _ _ _ rfl (hrow.alloc _) ⟨W.heap.size, 0, none⟩ 1 1 [.int .i64 x] rfl rfl (cell_one_new _ _ _) (by simp [Value.oneCell']) (by simp only [maxLen]; omega) (by omega) (by rw [World.size_alloc]; omega) ?_; intro v' wq hown' hgrow _; obtain ⟨g', cap', rfl⟩ := ownsRow_succ hown'; obtain ⟨hv1, hv2, hr2, hk2, hb2⟩ := hv.appended (by decide) (own_low hrow (show w5.heap.size ≤ w5.heap.size + 1 + 1 by omega)) (by omega) (Nat.le_refl _) (own_low hown' (show w5.heap.size ≤ w5.heap.size + 1 + 1 by omega)) hgrow; have hc1 := hv1.cell; have hf1 := hv1.frozen)
            have hkL : Kept [w5.heap.size] wq (wq.setCell ⟨w5.heap.size, 0, none⟩ (.slice (some ⟨g', 0, none⟩) (pre.length + 1) cap')) := (Kept.refl _ wq).set_ (.inl (by simp)) 0 _
            have hrow2 := own_keep hown' hkL (fun i hi hm => by
              have := (own_blk hown' i hm).1
              simp at hi
              omega)
            have hne : some (w5.heap.size + 1) ≠ v.ownBlock := fun e => by
              have := (own_blk hrow (w5.heap.size + 1) (by rw [← e]; simp)).1
              omega
            have hbn : (wq.setCell ⟨w5.heap.size, 0, none⟩ (.slice (some ⟨g', 0, none⟩) (pre.length + 1) cap')).heap[w5.heap.size + 1]? = W.heap[w5.heap.size + 1]? :=
              (Below.heap_setCell wq ⟨w5.heap.size, 0, none⟩ _ _ (by show w5.heap.size + 1 ≠ w5.heap.size; omega)).trans ((hgrow.block (w5.heap.size + 1) (by rw [World.size_alloc]; omega) hne).trans (Below.heap_alloc W _ _ (by omega)))
            refine ⟨hk2.from _, ?_, ⟨_, hv2, (by rw [List.map_append, List.length_append]; exact hrow2), trivial⟩, hB.trans hb2⟩
            intro i hi
            simp only [List.mem_cons, List.not_mem_nil, or_false] at hi
            rcases hi with rfl | rfl | rfl
            · exact hb2.block _ hpl
            · exact hb2.block _ hDl
            · exact hbn
          case done =>
            rintro DD ys W hD rfl ⟨⟨v, hv, hrow, _⟩, hB⟩ hK
            rw [marked_same] at hrow
            obtain ⟨W0, hW0⟩ : ∃ W0, markedInt ds ds.length = W0 := ⟨_, rfl⟩
            obtain ⟨nW, hnW⟩ : ∃ nW, W0.length = nW := ⟨_, rfl⟩
            have hml := markedInt_length ds ds.length
            rw [hW0, hnW] at hrow
            rw [hW0, hnW] at hml
            obtain ⟨A, c, rfl, _, hvv⟩ := own_read hrow
            have HC := hide (show Kept [] W W ∧ W.cell? ⟨w5.heap.size, 0, none⟩ = some (.slice A nW c) ∧ Vals W [] A (W0.map I) from ⟨Kept.refl _ _, hv.cell, hvv [] (by simp)⟩)
            have hd60 : ds.length ≤ 60 := by
              have h1 := HP.out.m1
              have h2 := pint_len HP.out
              have h3 : (asInts ks).length = k := by unfold asInts; rw [List.length_map]; exact HKN.out
              rw [h3] at h2
              have h4 : (k + per - 1) / per ≤ k := Nat.div_le_of_le_mul (by
                obtain ⟨a, rfl⟩ : ∃ a, k = a + 1 := ⟨k - 1, by omega⟩
                obtain ⟨b, rfl⟩ : ∃ b, per = b + 1 := ⟨per - 1, by omega⟩
                have : (b + 1) * (a + 1) = b * a + b + a + 1 := by rw [Nat.add_mul, Nat.mul_add]; omega
                have h5 : 0 ≤ b * a := Nat.zero_le _
                omega)
              omega
            have HD100 : Hid ((markedInt ds ds.length).take (100 : Int).toNat = W0) := hide (by rw [hW0]; exact List.take_of_length_le (by rw [hnW]; show nW ≤ 100; omega))
            have HNW := hide hnW
            have hbw : Below w5.heap.size w5 W := HBZ.out.trans hB
            have HPW := hide (HP.out.keep (Kept.of_below hbw []))
            have HKW := hide (HK.out.trans (Kept.of_below hbw []) (by simp))
            have HKD := hide hK
            have HDD : Hid (w.heap.size ≤ DD) := hide (by rw [hS2] at hD; have := HK.out.size; omega)
            clear hW0 hnW hrow hvv hv hK hB hbw
            go_wp2
            refine wp_region_noPanic ?_
            refine wp_region_held_drew (S := fun X => Kept [] W X ∧ X.cell? ⟨w5.heap.size, 0, none⟩ = some (.slice A nW c) ∧ Vals X [] A (W0.map I)) (by kernel_rfl) (by exact ⟨HC.out.1.drew, HC.out.2⟩) (fun hHeld => ?_)
            refine wpAnyH_take (i := 0) (oi := ⟨some 144, _, _, _, _, _⟩) (v := ?v1) rfl (by kernel_rfl) (by kernel_rfl) (by kernel_rfl) (fun _ _ _ h => h) (Or.inl ⟨by rfl, ?hy1⟩) (by assumption) ?rest1
            case hy1 => (intro X hSw; obtain ⟨_, c18, _⟩ := hSw; go_simp; try with_reducible rfl)
            try simp only [Act.put, List.setIfInBounds_toArray, List.set_cons_zero, List.set_cons_succ]
            refine wpAnyH_take (i := 2) (oi := ⟨some 146, _, _, _, _, _⟩) (v := ?v2) rfl (by kernel_rfl) (by kernel_rfl) (by kernel_rfl) (fun _ _ _ h => h) (Or.inl ⟨by rfl, ?hy2⟩) (by assumption) ?rest2
            case hy2 => (intro X hSw; obtain ⟨_, c18, _⟩ := hSw; go_simp; try with_reducible rfl)
            try simp only [Act.put, List.setIfInBounds_toArray, List.set_cons_zero, List.set_cons_succ]
            refine held_one (i := 1) (o := ⟨some 145, _, _, _, _, _⟩) rfl (by kernel_rfl) (by rfl) (fun K hK => ?_)
            go_simp
            refine (dirty_len p V D per (asInts ks) ds 100 _ (HPW.out.keep hHeld.1) W0 nW HD100.out HNW.out).mono ?_
            rintro e y1 ⟨A1, c1, rfl, hv1, hk1⟩
            have HV1 := hide hv1
            refine hK.out _ _ (by exact held_cv hHeld hk1) (fun hHeld => ?_)
            clear hK K
            try simp only [Act.put, List.setIfInBounds_toArray, List.set_cons_zero, List.set_cons_succ]
            refine held_one (i := 3) (o := ⟨some 147, _, _, _, _, _⟩) rfl (by kernel_rfl) (by rfl) (fun K hK => ?_)
            go_simp
            refine (ints_any A1 A nW nW c1 c W0 W0 _ HNW.out HNW.out HV1.out hHeld.2.2 (by omega)).mono ?_
            rintro e y3 ⟨rfl, hk3⟩
            rw [show decide (W0 = W0) = true by simp]
            refine hK.out _ _ (by exact held_cv hHeld hk3) (fun hHeld => ?_)
            clear hK K
            try simp only [Act.put, List.setIfInBounds_toArray, List.set_cons_zero, List.set_cons_succ]
            refine wpAnyH_take (i := 4) (oi := ⟨some 148, _, _, _, _, _⟩) (v := ?v3) rfl (by kernel_rfl) (by kernel_rfl) (by kernel_rfl) (fun _ _ _ h => h) (Or.inl ⟨by rfl, ?hy3⟩) (by assumption) ?rest3
            case hy3 => (intro X hSw; obtain ⟨_, c18, _⟩ := hSw; go_simp; try with_reducible rfl)
            try simp only [Act.put, List.setIfInBounds_toArray, List.set_cons_zero, List.set_cons_succ]
            refine held_one (i := 5) (o := ⟨some 149, _, _, _, _, _⟩) rfl (by kernel_rfl) (by rfl) (fun K hK => ?_)
            go_simp
            refine (awake_any _).mono ?_
            rintro e y5 ⟨rfl, hk5⟩
            refine hK.out _ _ (by exact held_cv hHeld hk5) (fun hHeld => ?_)
            clear hK K
            try simp only [Act.put, List.setIfInBounds_toArray, List.set_cons_zero, List.set_cons_succ]
            refine wpAnyH_take (i := 6) (oi := ⟨some 150, _, _, _, _, _⟩) (v := ?v4) rfl (by kernel_rfl) (by kernel_rfl) (by kernel_rfl) (fun _ _ _ h => h) (Or.inl ⟨by rfl, ?hy4⟩) (by assumption) ?rest4
            case hy4 => (intro X hSw; obtain ⟨_, c18, _⟩ := hSw; go_simp; try with_reducible rfl)
            try simp only [Act.put, List.setIfInBounds_toArray, List.set_cons_zero, List.set_cons_succ]
            refine wpAnyH_take (i := 7) (oi := ⟨some 6, _, _, _, _, _⟩) (v := ?v5) rfl (by kernel_rfl) (by kernel_rfl) (by kernel_rfl) (fun _ _ _ h => h) (Or.inl ⟨by rfl, ?hy5⟩) (by assumption) ?rest5
            case hy5 => (intro X hSw; obtain ⟨_, c18, _⟩ := hSw; go_simp; try with_reducible rfl)
            try simp only [Act.put, List.setIfInBounds_toArray, List.set_cons_zero, List.set_cons_succ]
            refine wpAnyH_done (by kernel_rfl) ?_ _
            refine NoPanic.normal ?_
            have HKF := hide (HKW.out.trans hHeld.1 (by simp))
            have HKK := hide hHeld.1
            clear hHeld
            go_wp2
            have hKx := (HKK.out.block DD (Array.getElem?_eq_some_iff.1 HKD.out).1 (by simp)).trans HKD.out
            refine ⟨by simp, .inl ⟨_, _, rfl, run_takeDeferred hKx, ?_⟩⟩
            exact ⟨_, results_tmp rfl _ _ _, rfl, (HKF.out.below (by simp)).trans (belowK_b (w := w) (Nat.le_refl _) _ DD _ _ HDD.out hKx rfl rfl)⟩
          case stop =>
            rintro DD c pre W _ _ h _
            exact h.elim

/-! ### the row's step, as the guide's skeleton has it -/
set_option maxRecDepth 100000 in
theorem lifted (os : Os) (started : os.Started) (H : Type) (enc : TypeId × Value → H) :
    ReturnsInHanded {} Try.checked os 6 .any (Rows.pagedTextsSpec.pre6 enc Try.prog Try.f6 Rows.pagedTextsRow.domain false) (Rows.pagedTextsSpec.post enc Try.prog Try.f6 false true false false) := by
  refine returnsInHanded_of_change (C := Try.checked) own started (by kernel_rfl) Try.func6
    (ChangeSpec.witness6 (enc := enc) (C := Try.checked) false ⟨#[], #[.int .i64 0, .int .i64 0, .slice none 0 0], []⟩ 8 (by kernel_rfl) (by kernel_rfl) (by kernel_rfl) (by kernel_rfl)) ?_
  intro W base args ds gs before hval0 hW hcnd _
  have hval : ∀ (j : Nat) t v, Try.f6.params[j]? = some t → args[j]? = some v → Value.okWide Try.prog W .any base t v := hval0
  have hW' := hW
  obtain ⟨p, q, hA0, hV, rfl, hfz, hnd⟩ := hW
  have hA : DataW.TrodAll enc Try.prog W 0 (fun _ => true) true Try.f6.params.toList args.toList ds p := hA0
  rw [Try.params6] at hA hval
  obtain ⟨v0, vs0, d0, ds0, p0, q0, hargs, rfl, rfl, h0, r0⟩ := trodAll_cons hA
  obtain ⟨v1, vs1, d1, ds1, p1, q1, rfl, rfl, rfl, h1, r1⟩ := trodAll_cons r0
  obtain ⟨v2, vs2, d2, ds2, p2, q2, rfl, rfl, rfl, h2, r2⟩ := trodAll_cons r1
  obtain ⟨rfl, rfl, rfl⟩ := trodAll_nil r2
  obtain rfl : args = #[v0, v1, v2] := by cases args; simp_all
  obtain ⟨rfl, rfl⟩ := trodVars_none hV
  obtain ⟨a0, rfl, rfl, rfl, w0⟩ := open_int Try.underlying3 (hval 0 3 v0 rfl rfl) h0
  obtain ⟨a1, rfl, rfl, rfl, w1⟩ := open_int Try.underlying3 (hval 1 3 v1 rfl rfl) h1
  obtain ⟨a2, len2, cap2, rfl⟩ := okWide_slice Try.underlying42 (hval 2 42 v2 rfl rfl)
  have k2 := h2
  have lt2 : ∀ x ∈ p2, x.block < W.heap.size := by obtain ⟨m, hm⟩ := k2; exact DataW.trod_lt m _ _ _ hm
  obtain ⟨l2, e2, w2, b2⟩ : ∃ l : List (List Int), l.length = len2 ∧ Slab W 2 a2 l ∧ len2 ≤ cap2 ∧ cap2 ≤ maxLen := by
    obtain ⟨fuel, hf⟩ := h2
    exact slab_of Try.underlying42 (by kernel_rfl) (fun _ cs x hl h => array_cells Try.underlying3 (by kernel_rfl) Try.underlying43 (by kernel_rfl) _ cs x hl h) hf
  clear hA0 hval0
  refine (walk a0 a1 a2 len2 cap2 l2 W w0 w1 w2 e2 b2).mono fun e W' ⟨he, bel⟩ => ?_
  subst he
  exact ⟨_, rfl, _, _, _, [], _, [], hW', trodAll_mk1 (shut_bool Try.underlying4 _), (trodAll_cons_mk (shut_int Try.underlying3 w0) (trodAll_cons_mk (shut_int Try.underlying3 w1) (trodAll_cons_mk (Below.trod laidOut (by kernel_rfl) (of_decide_eq_true (by kernel_rfl)) k2 bel lt2) trodAll_mk0))), rfl, bel.frame _, fun h => by cases h⟩

theorem over : Rows.pagedTextsRow.holds Try.pinned (OpenSpec.ofChange Rows.pagedTextsSpec) :=
  OpenClaim.holds_of_wide 6 Try.f6 rfl rfl rfl rfl rfl rfl rfl ⟨rfl, rfl, rfl, rfl, rfl⟩ rfl rfl rfl rfl rfl (by kernel_rfl) Try.func6 (by kernel_rfl)
    (of_decide_eq_true (by kernel_rfl)) (by unfold Func.isWrapper; first | (rw [if_pos (by decide +kernel)]; kernel_rfl) | (rw [if_neg (by decide +kernel)]; exact ⟨rfl, rfl⟩))
    (fun os started H enc _ => lifted os started H enc)

/-- The statement. -/
theorem proved : Rows.PagedTextsSaid := over
#print axioms proved
end Go.Proofs.Ytfiddfanekblmaa.pagedTexts

