/-
  The given statement PagedDirtySaid is proved: whatever the arguments are, the law returns true and leaves its input as it was. No conditions.
-/
import Derived.Test.YtfiddfanekblmaaShapes
import Derived.Test.YtfiddfanekblmaaSlabs
import Derived.Test.YtfiddfanekblmaaPagedOuts
import Derived.Test.YtfiddfanekblmaaHeld
import Derived.Test.YtfiddfanekblmaaPagedAtInt
import Derived.Test.YtfiddfanekblmaaPagedAtStr
import Derived.Test.YtfiddfanekblmaaPagedDirtStr
import Derived.Test.YtfiddfanekblmaaOwns
import Derived.WalkKit
import Derived.ProofKit
import Derived.OpenShut
import Derived.ShutString
import Derived.ChangeOld
import Derived.Below
namespace Go.Proofs.Ytfiddfanekblmaa.pagedDirty
open Go.ChangeShapes Go.WideShapes Go.ChangeAt Go.RowKit
open Go.ChangeMaps (open_string shut_string)
open Go.Proofs.Ytfiddfanekblmaa.mem Go.Proofs.Ytfiddfanekblmaa.base Go.Proofs.Ytfiddfanekblmaa.pd Go.Proofs.Ytfiddfanekblmaa.pg Go.Proofs.Ytfiddfanekblmaa.owns
set_option linter.unusedVariables false

theorem own : ownKnob Try.prog.godebug = none := by kernel_rfl
theorem laidOut : laidOutB Try.prog = true := by kernel_rfl

/-- The array's cells. -/
def cellsI (l : List Int) : Array Value := (l.map I).toArray
theorem cellsI_set (l : List Int) (i : Nat) (x : Int) : (cellsI l).setIfInBounds i (.int .i64 x) = cellsI (l.set i x) := by
  unfold cellsI
  rw [List.setIfInBounds_toArray, List.map_set]
  rfl
def cellsB (l : List Bool) : Array Value := (bv l).toArray
theorem cellsB_set (l : List Bool) (i : Nat) (x : Bool) : (cellsB l).setIfInBounds i (.bool x) = cellsB (l.set i x) := by
  unfold cellsB bv
  rw [List.setIfInBounds_toArray, List.map_set]

theorem cell_i {w : World} {g : Nat} {t : TypeId} {l : List Int} (h : Blk w g t (cellsI l)) {i : Nat} {x : Int} (hi : l[i]? = some x) : w.cell? ⟨g, i, none⟩ = some (.int .i64 x) := by
  rw [h.cell]
  unfold cellsI
  simp [hi, I]
theorem cell_b {w : World} {g : Nat} {t : TypeId} {l : List Bool} (h : Blk w g t (cellsB l)) {i : Nat} {x : Bool} (hi : l[i]? = some x) : w.cell? ⟨g, i, none⟩ = some (.bool x) := by
  rw [h.cell]
  unfold cellsB bv
  simp [hi]

set_option maxRecDepth 100000 in
set_option maxHeartbeats 2000000 in
theorem walk (a0 : Option Addr) (len0 cap0 : Nat) (l0 : List (List Int)) (a1 : Option Addr) (len1 cap1 : Nat) (l1 : List (List Int)) (a2 : Int) (w : World) (w0 : Slab w 2 a0 l0) (e0 : l0.length = len0) (b0 : len0 ≤ cap0 ∧ cap0 ≤ maxLen) (w1 : Slab w 2 a1 l1) (e1 : l1.length = len1) (b1 : len1 ≤ cap1 ∧ cap1 ≤ maxLen) (w2 : (Lit.int .i64 a2).wf = true) :
    Calls Try.prog 5 #[.slice a0 len0 cap0, .slice a1 len1 cap1, .int .i64 a2] w fun e w' => e = .returned (.bool true) ∧ Below w.heap.size w w' := by
  by_cases hout : 40 < len0 ∨ 40 < len1
  · exact dirty_out a0 len0 cap0 a1 len1 cap1 a2 w hout
  have hl0 : len0 ≤ 40 := by omega
  have hl1 : len1 ≤ 40 := by omega
  have HS0 := hide w0
  have HS1 := hide w1
  have HE0 := hide e0
  have HE1 := hide e1
  clear w0 w1 e0 e1 b0 b1 hout
  go_enter Try.func5, Try.ntmps5
  go_wp2_with fail
  refine (new_int_at 40 4 0 _ 40 4 _ rfl rfl (by omega) (by omega) (by omega) (by omega) rfl).mono ?_
  rintro e w1 ⟨p, V, D, rfl, hp, hV, hD, hP, hk⟩
  have HP := hide (hP.keep ((Kept.refl [] w1).alloc (.cells (cellsI (List.replicate 40 0)) 46)))
  have HK := hide (hk.alloc (.cells (cellsI (List.replicate 40 0)) 46))
  have HMB : Hid (Blk (w1.alloc (.cells (cellsI (List.replicate 40 0)) 46)) w1.heap.size 46 (cellsI (List.replicate 40 0))) := hide (Blk.new _ _ _)
  have HV := hide hV
  have HD := hide hD
  have HMW : Hid (w.heap.size ≤ w1.heap.size) := hide hk.size
  have HLT : Hid (p < w1.heap.size ∧ V < w1.heap.size ∧ D < w1.heap.size) := hide ⟨hP.pl, hP.Vl, hP.Dl⟩
  clear hP hk hp hV hD
  go_wp2
  go_loopw [9] (fun i wr => ∃ (k : Nat) (ms : List Int) (ds : List Bool), k ≤ len0 ∧ i = .int .i64 k ∧ Hid (ms.length = 40) ∧ Hid (Blk wr w1.heap.size 46 (cellsI ms)) ∧ Hid (Pint wr p V D 4 (ms.map I) ds) ∧ Hid (Kept [] w wr)) (fun i wr => len0 - (intOf i).toNat)
  case atStart => exact ⟨0, List.replicate 40 0, _, Nat.zero_le _, rfl, hide rfl, HMB, HP, HK⟩
  case round =>
    obtain ⟨k, ms, ds, hk, rfl, HN, HMB, HP, HK⟩ := hrel
    by_cases hlt : k < len0
    · obtain ⟨ad, x, y, rfl, hxy, c0, c1⟩ := slab_pair (Slab.kept HS0.out HK.out) (i := k) (by rw [HE0.out]; exact hlt)
      have hlow := slab_low HS0.out (i := k) (by rw [HE0.out]; exact hlt) rfl
      rw [add_next] at c1
      obtain ⟨r, hr, hrn⟩ : ∃ r : Nat, x % 40 = (r : Int) ∧ r < 40 := ⟨(x % 40).toNat, by omega, by omega⟩
      obtain ⟨s, hs⟩ : ∃ s : Int, y % 3 = s := ⟨_, rfl⟩
      obtain ⟨o, ho⟩ : ∃ o, ms[r]? = some o := ⟨_, List.getElem?_eq_getElem (by rw [HN.out]; exact hrn)⟩
      have hr0 : (0 : Int) ≤ r := by omega
      have hr1 : (r : Int) < 40 := by omega
      have cm := cell_i HMB.out ho
      have fm := HMB.out.frozen r
      have HR := hide hr
      have HSV := hide hs
      have hkm : Kept [w1.heap.size] wr (wr.setCell ⟨w1.heap.size, r, none⟩ (.int .i64 s)) := (Kept.refl _ wr).set_ (.inl (by simp)) r _
      have HMB2 : Hid (Blk (wr.setCell ⟨w1.heap.size, r, none⟩ (.int .i64 s)) w1.heap.size 46 (cellsI (ms.set r s))) := hide (by have := HMB.out.set_ r (.int .i64 s); rwa [cellsI_set] at this)
      have HP2 := hide (HP.out.kept hkm (by have := HLT.out; simp; omega) (by have := HLT.out; simp; omega) (by have := HLT.out; simp; omega))
      have HK2 : Hid (Kept [] w (wr.setCell ⟨w1.heap.size, r, none⟩ (.int .i64 s))) := hide (HK.out.set_ (.inr HMW.out) r _)
      have HN2 : Hid ((ms.set r s).length = 40) := hide (by rw [List.length_set]; exact HN.out)
      have cm2 : (wr.setCell ⟨w1.heap.size, r, none⟩ (.int .i64 s)).cell? ⟨w1.heap.size, r, none⟩ = some (.int .i64 s) := cell_i HMB2.out (by rw [List.getElem?_set_self (by rw [HN.out]; exact hrn)])
      have HO := hide ho
      clear hr hs ho hlow hkm hxy
      go_wp2_with fail
      refine (round_any x 40 _ (by omega) (by omega)).mono ?_
      rintro e wn ⟨rfl, rfl⟩
      rw [HR.out]
      go_wp2_with fail
      refine (round_any y 3 _ (by omega) (by omega)).mono ?_
      rintro e wn ⟨rfl, rfl⟩
      rw [HSV.out]
      go_wp2_with fail
      refine (set_int_at HP2.out r r rfl o s HO.out _ rfl).mono ?_
      rintro e wn ⟨rfl, hP3, hk3⟩
      have HMB4 := hide (hk3.blk HMB2.out (by have := HLT.out; simp; omega))
      have HP4 := hide hP3
      have HK4 := hide (kept_under HK2.out hk3 (fun i hi => by
        simp at hi
        rcases hi with rfl | rfl
        · exact HV.out
        · exact HD.out))
      clear hP3 hk3
      go_wp2
      go_roundw
      case rel => exact ⟨k + 1, _, _, by omega, by go_num, HN2, HMB4, HP4, HK4⟩
      case measure => simp [intOf]; omega
    · obtain rfl : k = len0 := by omega
      generalize wr = w2 at *
      go_wp2_with fail
      refine (clean_int HP.out).mono ?_
      rintro e w3 ⟨rfl, hP3, hk3⟩
      have hd10 : ds.length = 10 := by have := pint_len HP.out; rw [HN.out] at this; exact this
      rw [hd10] at hP3
      have HMB0 := hide ((hk3.blk HMB.out (by have := HLT.out; simp; omega)).alloc (.cells (cellsB (List.replicate 10 false)) 47))
      have HTB0 : Hid (Blk (w3.alloc (.cells (cellsB (List.replicate 10 false)) 47)) w3.heap.size 47 (cellsB (List.replicate 10 false))) := hide (Blk.new _ _ _)
      have HP0 := hide (hP3.keep ((Kept.refl [] w3).alloc (.cells (cellsB (List.replicate 10 false)) 47)))
      have HK0 := hide ((kept_under HK.out hk3 (fun i hi => by
        simp at hi
        rw [hi]
        exact HD.out)).alloc (.cells (cellsB (List.replicate 10 false)) 47))
      have HTW : Hid (w.heap.size ≤ w3.heap.size) := hide (Nat.le_trans HK.out.size hk3.size)
      have HLT3 : Hid (p < w3.heap.size ∧ V < w3.heap.size ∧ D < w3.heap.size ∧ w1.heap.size < w3.heap.size) := hide ⟨hP3.pl, hP3.Vl, hP3.Dl, Nat.lt_of_lt_of_le HMB.out.lt hk3.size⟩
      have HN0 := HN
      clear hP3 hk3 hd10 HMB HP HK HN
      go_wp2
      go_loopw [12] (fun i wr => ∃ (k : Nat) (ms : List Int) (ds : List Bool), k ≤ len1 ∧ i = .int .i64 k ∧ Hid (ms.length = 40) ∧ Hid (ds.length = 10) ∧ Hid (Blk wr w1.heap.size 46 (cellsI ms)) ∧ Hid (Blk wr w3.heap.size 47 (cellsB ds)) ∧ Hid (Pint wr p V D 4 (ms.map I) ds) ∧ Hid (Kept [] w wr)) (fun i wr => len1 - (intOf i).toNat)
      case atStart => exact ⟨0, ms, List.replicate 10 false, Nat.zero_le _, rfl, HN0, hide rfl, HMB0, HTB0, HP0, HK0⟩
      case round =>
        obtain ⟨k, ms, ds, hk, rfl, HN, HND, HMB, HTB, HP, HK⟩ := hrel
        by_cases hlt : k < len1
        · obtain ⟨ad, x, y, rfl, hxy, c0, c1⟩ := slab_pair (Slab.kept HS1.out HK.out) (i := k) (by rw [HE1.out]; exact hlt)
          rw [add_next] at c1
          obtain ⟨r, hr, hrn⟩ : ∃ r : Nat, x % 40 = (r : Int) ∧ r < 40 := ⟨(x % 40).toNat, by omega, by omega⟩
          obtain ⟨s, hs⟩ : ∃ s : Int, y % 3 = s := ⟨_, rfl⟩
          obtain ⟨o, ho⟩ : ∃ o, ms[r]? = some o := ⟨_, List.getElem?_eq_getElem (by rw [HN.out]; exact hrn)⟩
          obtain ⟨q, hq⟩ : ∃ q : Nat, r / 4 = q := ⟨_, rfl⟩
          have hq10 : q < 10 := by omega
          obtain ⟨tb, htb⟩ : ∃ tb, ds[q]? = some tb := ⟨_, List.getElem?_eq_getElem (by rw [HND.out]; exact hq10)⟩
          have hr0 : (0 : Int) ≤ r := by omega
          have hr1 : (r : Int) < 40 := by omega
          have hq0 : (0 : Int) ≤ q := by omega
          have hq1 : (q : Int) < 10 := by omega
          have qd : (r : Int).tdiv 4 = (q : Int) := by rw [Int.tdiv_eq_ediv_of_nonneg hr0]; omega
          have qv : IntKind.i64.wrap (q : Int) = q := by rw [IntKind.wrap_i64]; omega
          have cm := cell_i HMB.out ho
          have fm := HMB.out.frozen r
          have ct := cell_b HTB.out htb
          have ft := HTB.out.frozen q
          have HR := hide hr
          have HSV := hide hs
          have HSC := hide (show wr.cell? (ad.add (k * 2)) = some (.int .i64 x) ∧ wr.cell? ⟨(ad.add (k * 2)).block, (ad.add (k * 2)).off + 1, none⟩ = some (.int .i64 y) from ⟨c0, c1⟩)
          have HO := hide ho
          have HQ := hide hq
          have HHR := hide hrn
          clear hr hs ho hxy c0 c1 hq htb
          go_wp2
          go_region_held3 (fun W => W.cell? (ad.add (k * 2)) = some (.int .i64 x) ∧ W.cell? ⟨(ad.add (k * 2)).block, (ad.add (k * 2)).off + 1, none⟩ = some (.int .i64 y))
            (first | exact HSC.out | assumption)
            (first
              | (go_at_call 20; refine (round_any x 40 _ (by omega) (by omega)).mono ?_; rintro e wn ⟨rfl, rfl⟩; rw [HR.out])
              | (go_at_call 20; refine (round_any y 3 _ (by omega) (by omega)).mono ?_; rintro e wn ⟨rfl, rfl⟩; rw [HSV.out]))
          obtain ⟨wd, hwd⟩ : ∃ wd, wr.drew = wd := ⟨_, rfl⟩
          have hkd : Kept [] wr wd := by rw [← hwd]; exact (Kept.refl [] wr).drew
          have HMBd := hide (hkd.blk HMB.out (by simp))
          have HTBd := hide (hkd.blk HTB.out (by simp))
          have HPd := hide (HP.out.keep hkd)
          have HKd := hide (HK.out.trans hkd (by simp))
          have cm' : wd.cell? ⟨w1.heap.size, r, none⟩ = some (.int .i64 o) := cell_i HMBd.out HO.out
          have fm' := HMBd.out.frozen r
          have ct' : wd.cell? ⟨w3.heap.size, q, none⟩ = some (.bool tb) := by rw [← hwd]; exact ct
          have ft' := HTBd.out.frozen q
          rw [hwd]
          clear hwd hkd cm fm ct ft HMB HTB HP HK HSC
          have HN2 : Hid ((ms.set r s).length = 40) := hide (by rw [List.length_set]; exact HN.out)
          by_cases hos : o = s
          · have hne : (o != s) = false := by rw [bne_eq_false_iff_eq]; exact hos
            have HOS := hide hos
            have hkm : Kept [w1.heap.size] wd (wd.setCell ⟨w1.heap.size, r, none⟩ (.int .i64 s)) := (Kept.refl _ wd).set_ (.inl (by simp)) r _
            have HMB2 : Hid (Blk (wd.setCell ⟨w1.heap.size, r, none⟩ (.int .i64 s)) w1.heap.size 46 (cellsI (ms.set r s))) := hide (by have := HMBd.out.set_ r (.int .i64 s); rwa [cellsI_set] at this)
            have HTB2 := hide (hkm.blk HTBd.out (by have := HLT3.out; simp; omega))
            have HP2 := hide (HPd.out.kept hkm (by have := HLT.out; simp; omega) (by have := HLT.out; simp; omega) (by have := HLT.out; simp; omega))
            have HK2 : Hid (Kept [] w (wd.setCell ⟨w1.heap.size, r, none⟩ (.int .i64 s))) := hide (HKd.out.set_ (.inr HMW.out) r _)
            clear hkm hos
            go_wp2_with fail
            refine (set_int_at HP2.out r r rfl o s HO.out ds (if_pos HOS.out).symm).mono ?_
            rintro e wn ⟨rfl, hP3, hk3⟩
            have HMB4 := hide (hk3.blk HMB2.out (by have := HLT.out; simp; omega))
            have HTB4 := hide (hk3.blk HTB2.out (by have := HLT3.out; simp; omega))
            have HP4 := hide hP3
            have HK4 := hide (kept_under HK2.out hk3 (fun i hi => by
              simp at hi
              rcases hi with rfl | rfl
              · exact HV.out
              · exact HD.out))
            clear hP3 hk3
            go_wp2
            go_roundw
            case rel => exact ⟨k + 1, _, _, by omega, by go_num, HN2, HND, HMB4, HTB4, HP4, HK4⟩
            case measure => simp [intOf]; omega
          · have hne : (o != s) = true := by rw [bne_iff_ne]; exact hos
            have HOS := hide hos
            have hkt : Kept [w3.heap.size] wd (wd.setCell ⟨w3.heap.size, q, none⟩ (.bool true)) := (Kept.refl _ wd).set_ (.inl (by simp)) q _
            obtain ⟨wt, hwt⟩ : ∃ wt, wd.setCell ⟨w3.heap.size, q, none⟩ (.bool true) = wt := ⟨_, rfl⟩
            have HTB1 : Hid (Blk wt w3.heap.size 47 (cellsB (ds.set q true))) := hide (by rw [← hwt]; have := HTBd.out.set_ q (.bool true); rwa [cellsB_set] at this)
            rw [hwt] at hkt
            have HMB1 := hide (hkt.blk HMBd.out (by have := HLT3.out; simp; omega))
            have HP1 := hide (HPd.out.kept hkt (by have := HLT3.out; simp; omega) (by have := HLT3.out; simp; omega) (by have := HLT3.out; simp; omega))
            have HK1 : Hid (Kept [] w wt) := hide (by rw [← hwt]; exact HKd.out.set_ (.inr HTW.out) q _)
            have cm1 : wt.cell? ⟨w1.heap.size, r, none⟩ = some (.int .i64 o) := cell_i HMB1.out HO.out
            have fm1 := HMB1.out.frozen r
            have hkm : Kept [w1.heap.size] wt (wt.setCell ⟨w1.heap.size, r, none⟩ (.int .i64 s)) := (Kept.refl _ wt).set_ (.inl (by simp)) r _
            have HMB2 : Hid (Blk (wt.setCell ⟨w1.heap.size, r, none⟩ (.int .i64 s)) w1.heap.size 46 (cellsI (ms.set r s))) := hide (by have := HMB1.out.set_ r (.int .i64 s); rwa [cellsI_set] at this)
            have HTB2 := hide (hkm.blk HTB1.out (by have := HLT3.out; simp; omega))
            have HP2 := hide (HP1.out.kept hkm (by have := HLT.out; simp; omega) (by have := HLT.out; simp; omega) (by have := HLT.out; simp; omega))
            have HK2 : Hid (Kept [] w (wt.setCell ⟨w1.heap.size, r, none⟩ (.int .i64 s))) := hide (HK1.out.set_ (.inr HMW.out) r _)
            have HND2 : Hid ((ds.set q true).length = 10) := hide (by rw [List.length_set]; exact HND.out)
            clear hkm hos hkt
            go_wp2_with fail
            refine (set_int_at HP2.out r r rfl o s HO.out (ds.set q true) (by rw [if_neg HOS.out, HQ.out])).mono ?_
            rintro e wn ⟨rfl, hP3, hk3⟩
            have HMB4 := hide (hk3.blk HMB2.out (by have := HLT.out; simp; omega))
            have HTB4 := hide (hk3.blk HTB2.out (by have := HLT3.out; simp; omega))
            have HP4 := hide hP3
            have HK4 := hide (kept_under HK2.out hk3 (fun i hi => by
              simp at hi
              rcases hi with rfl | rfl
              · exact HV.out
              · exact HD.out))
            clear hP3 hk3
            go_wp2
            go_roundw
            case rel => exact ⟨k + 1, _, _, by omega, by go_num, HN2, HND2, HMB4, HTB4, HP4, HK4⟩
            case measure => simp [intOf]; omega
        · obtain rfl : k = len1 := by omega
          generalize wr = w4 at *
          have HO0 : Hid (w4.ownsRow w4.heap.size 3 1 (.slice none 0 0) (markedInt ds 0).length ((markedInt ds 0).map I)) := hide (ownsRow_nil_ _ _ _)
          have HK40 : Hid (Kept [] w4 w4) := hide (Kept.refl _ _)
          go_wp2
          go_loopw [15, 16] (fun lv i wr => ∃ k : Nat, k ≤ 10 ∧ i = .int .i64 k ∧ Hid (wr.ownsRow w4.heap.size 3 1 lv (markedInt ds k).length ((markedInt ds k).map I)) ∧ Hid (Kept [] w4 wr)) (fun _ i wr => 10 - (intOf i).toNat)
          case atStart => exact ⟨0, by omega, rfl, HO0, HK40⟩
          case round =>
            obtain ⟨k, hk, rfl, HL, HKL⟩ := hrel
            by_cases hlt : k < 10
            · obtain ⟨tb, htb⟩ : ∃ tb, ds[k]? = some tb := ⟨_, List.getElem?_eq_getElem (by rw [HND.out]; exact hlt)⟩
              have ct : wr.cell? ⟨w3.heap.size, k, none⟩ = some (.bool tb) := cell_b (HKL.out.blk HTB.out (by simp)) htb
              have hk0 : (0 : Int) ≤ k := by omega
              have hk1 : (k : Int) < 10 := by omega
              cases tb with
              | false =>
                have HN := hide (markedInt_no ds k htb)
                clear htb
                go_wp2
                go_roundw
                case rel => exact ⟨k + 1, by omega, by go_num, by rw [HN.out]; exact HL, HKL⟩
                case measure => simp [intOf]; omega
              | true =>
                have HN := hide (markedInt_yes ds k htb)
                have hml := markedInt_length ds k
                have HLA := hide (HL.out.alloc (.cells #[.int .i64 (k : Int)] 3))
                have HVO : Hid (Vals (wr.alloc (.cells #[.int .i64 (k : Int)] 3)) [] (some ⟨wr.heap.size, 0, none⟩) ([(k : Int)].map I)) := hide (vals_one wr [] k _ (by simp))
                have HSZ : Hid (w4.heap.size ≤ (wr.alloc (.cells #[.int .i64 (k : Int)] 3)).heap.size) := hide (by rw [World.size_alloc]; have := HKL.out.size; omega)
                have hmx : (markedInt ds k).length + 1 ≤ maxLen := by simp only [maxLen]; omega
                have HO1 := hide (oneCell_I [(k : Int)])
                clear htb
                go_wp2_with (
                  with_reducible refine wpList_append_vals (o := ⟨some 101, _, _, _, _, _⟩) ?_ (.tmp 98) (.tmp 100) 29 ?_ w4.heap.size 3 (.int .i64 0) 1 8 Try.underlying29 int_info ?_ (by omega) u15 (markedInt ds k).length ((markedInt ds k).map I) ?_ HLA.out [] (some ⟨wr.heap.size, 0, none⟩) 1 1 ([(k : Int)].map I) ?_ ?_ HVO.out HO1.out hmx (by omega) HSZ.out ?_
                  · rfl
                  · rfl
                  · rfl
                  · rfl
                  · rfl
                  · rfl
                  intro v1 w5 hown1 hk5 hat5
                  have HL5 : Hid (w5.ownsRow w4.heap.size 3 1 v1 (markedInt ds (k + 1)).length ((markedInt ds (k + 1)).map I)) := hide (by rw [HN.out, List.length_append, List.map_append]; exact hown1)
                  have HK5 : Hid (Kept [] w4 w5) := hide (kept_own HL.out (Nat.le_refl _) HKL.out _ hk5)
                  clear hown1 hk5 hat5)
                go_roundw
                case rel => exact ⟨k + 1, by omega, by go_num, HL5, HK5⟩
                case measure => simp [intOf]; omega
            · obtain rfl : k = 10 := by omega
              obtain ⟨s, hs, hs2⟩ : ∃ s : Nat, a2 % 11 = (s : Int) ∧ s < 11 := ⟨(a2 % 11).toNat, by omega, by omega⟩
              have hml := markedInt_length ds 10
              obtain ⟨W0, hW0⟩ : ∃ W0, markedInt ds 10 = W0 := ⟨_, rfl⟩
              obtain ⟨nW, hnW⟩ : ∃ nW, W0.length = nW := ⟨_, rfl⟩
              rw [hW0, hnW] at HL
              rw [hW0, hnW] at hml
              have HD100 : Hid ((markedInt ds ds.length).take (100 : Int).toNat = W0) := hide (by rw [HND.out, hW0]; exact List.take_of_length_le (by rw [hnW]; show nW ≤ 100; omega))
              have HDs : Hid ((markedInt ds ds.length).take (s : Int).toNat = W0.take s) := hide (by rw [HND.out, hW0]; rfl)
              obtain ⟨q, hq⟩ : ∃ q, min s nW = q := ⟨_, rfl⟩
              have HQL : Hid ((W0.take s).length = q) := hide (by rw [List.length_take, hnW]; exact hq)
              have HQT : Hid (W0.take q = W0.take s) := hide (by rw [← hq, ← hnW]; simp [List.take_eq_take_iff])
              have HNW := hide hnW
              have HR := hide hs
              have hqs : q ≤ nW := by omega
              have HQI : Hid ((if nW < s then (nW : Int) else (s : Int)) = (q : Int)) := hide (by split <;> omega)
              have HPW := hide (HP.out.keep HKL.out)
              have HKW : Hid (Kept [] w wr) := hide (HK.out.trans HKL.out (by simp))
              obtain ⟨WA, wc, hu, hwc, hwv⟩ := own_read HL.out
              have HWV := hide (hwv [] (by simp))
              have HWQ : Hid (∀ W A, Vals W [] A (W0.map I) → Vals W [] A ((W0.take s).map I)) := hide (fun W A h => by
                have h1 := h.cut 0 q
                rw [← HQT.out, List.map_take]
                cases A with
                | none => simpa using h1
                | some a => simpa [Addr.add] using h1)
              rcases HL.out.2 with ⟨he, h0⟩ | ⟨g, cap, cur, he, _, _, hgc, _⟩
              · rw [hu] at he
                cases he
                subst hu
                obtain rfl : q = 0 := by omega
                have HQI : Hid ((if 0 < s then (0 : Int) else (s : Int)) = 0) := hide (by split <;> omega)
                have HS3 : Hid (Kept [] wr wr ∧ Vals wr [] none (W0.map I)) := hide ⟨Kept.refl _ _, HWV.out⟩
                clear hs hW0 hnW hwv hq HL
                go_wp2_with fail
                refine (round_any a2 11 _ (by omega) (by omega)).mono ?_
                rintro e wn ⟨rfl, rfl⟩
                rw [HR.out]
                go_wp2
                refine wp_region_noPanic ?_
                refine wp_region_held_drew (S := fun W => Kept [] wr W ∧ Vals W [] none (W0.map I)) (by kernel_rfl) (by exact ⟨HS3.out.1.drew, HS3.out.2⟩) (fun hHeld => ?_)
                refine wpAnyH_take (i := 0) (oi := ⟨some 104, _, _, _, _, _⟩) (v := ?v1) rfl (by kernel_rfl) (by kernel_rfl) (by kernel_rfl) (fun _ _ _ h => h) (Or.inl ⟨by rfl, ?hy1⟩) (by assumption) ?rest1
                case hy1 => (intro W hSw; go_simp; (try rw [HQI.out]); try with_reducible rfl)
                try simp only [Act.put, List.setIfInBounds_toArray, List.set_cons_zero, List.set_cons_succ]
                refine wpAnyH_take (i := 2) (oi := ⟨some 106, _, _, _, _, _⟩) (v := ?v2) rfl (by kernel_rfl) (by kernel_rfl) (by kernel_rfl) (fun _ _ _ h => h) (Or.inl ⟨by rfl, ?hy2⟩) (by assumption) ?rest2
                case hy2 => (intro W hSw; go_simp; (try rw [HQI.out]); try with_reducible rfl)
                try simp only [Act.put, List.setIfInBounds_toArray, List.set_cons_zero, List.set_cons_succ]
                refine held_one (i := 1) (o := ⟨some 105, _, _, _, _, _⟩) rfl (by kernel_rfl) (by rfl) (fun K hK => ?_)
                go_simp
                refine (dirty_len p V D 4 ms ds 100 _ (HPW.out.keep hHeld.1) W0 0 HD100.out HNW.out).mono ?_
                rintro e y1 ⟨A1, c1, rfl, hv1, hk1⟩
                have HV1 := hide hv1
                refine hK.out _ _ (by exact held_vals hHeld hk1) (fun hHeld => ?_)
                clear hK K
                try simp only [Act.put, List.setIfInBounds_toArray, List.set_cons_zero, List.set_cons_succ]
                refine held_one (i := 3) (o := ⟨some 107, _, _, _, _, _⟩) rfl (by kernel_rfl) (by rfl) (fun K hK => ?_)
                go_simp
                refine (ints_any A1 none 0 0 c1 0 W0 W0 _ HNW.out HNW.out HV1.out hHeld.2 (by omega)).mono ?_
                rintro e y3 ⟨rfl, hk3⟩
                rw [show decide (W0 = W0) = true by simp]
                refine hK.out _ _ (by exact held_vals hHeld hk3) (fun hHeld => ?_)
                clear hK K
                try simp only [Act.put, List.setIfInBounds_toArray, List.set_cons_zero, List.set_cons_succ]
                refine wpAnyH_take (i := 4) (oi := ⟨some 108, _, _, _, _, _⟩) (v := ?v3) rfl (by kernel_rfl) (by kernel_rfl) (by kernel_rfl) (fun _ _ _ h => h) (Or.inl ⟨by rfl, ?hy3⟩) (by assumption) ?rest3
                case hy3 => (intro W hSw; go_simp; (try rw [HQI.out]); try with_reducible rfl)
                try simp only [Act.put, List.setIfInBounds_toArray, List.set_cons_zero, List.set_cons_succ]
                refine wpAnyH_take (i := 5) (oi := ⟨some 109, _, _, _, _, _⟩) (v := ?v4) rfl (by kernel_rfl) (by kernel_rfl) (by kernel_rfl) (fun _ _ _ h => h) (Or.inl ⟨by rfl, ?hy4⟩) (by assumption) ?rest4
                case hy4 => (intro W hSw; go_simp; (try rw [HQI.out]); try with_reducible rfl)
                try simp only [Act.put, List.setIfInBounds_toArray, List.set_cons_zero, List.set_cons_succ]
                refine wpAnyH_take (i := 6) (oi := ⟨some 110, _, _, _, _, _⟩) (v := ?v5) rfl (by kernel_rfl) (by kernel_rfl) (by kernel_rfl) (fun _ _ _ h => h) (Or.inl ⟨by rfl, ?hy5⟩) (by assumption) ?rest5
                case hy5 => (intro W hSw; go_simp; (try rw [HQI.out]); try with_reducible rfl)
                try simp only [Act.put, List.setIfInBounds_toArray, List.set_cons_zero, List.set_cons_succ]
                refine wpAnyH_take (i := 8) (oi := ⟨some 112, _, _, _, _, _⟩) (v := ?v6) rfl (by kernel_rfl) (by kernel_rfl) (by kernel_rfl) (fun _ _ _ h => h) (Or.inl ⟨by rfl, ?hy6⟩) (by assumption) ?rest6
                case hy6 => (intro W hSw; go_simp; (try rw [HQI.out]); try with_reducible rfl)
                try simp only [Act.put, List.setIfInBounds_toArray, List.set_cons_zero, List.set_cons_succ]
                refine wpAnyH_take (i := 9) (oi := ⟨some 113, _, _, _, _, _⟩) (v := ?v7) rfl (by kernel_rfl) (by kernel_rfl) (by kernel_rfl) (fun _ _ _ h => h) (Or.inl ⟨by rfl, ?hy7⟩) (by assumption) ?rest7
                case hy7 => (intro W hSw; go_simp; (try rw [HQI.out]); try with_reducible rfl)
                try simp only [Act.put, List.setIfInBounds_toArray, List.set_cons_zero, List.set_cons_succ]
                refine wpAnyH_take (i := 10) (oi := ⟨some 114, _, _, _, _, _⟩) (v := ?v8) rfl (by kernel_rfl) (by kernel_rfl) (by kernel_rfl) (fun _ _ _ h => h) (Or.inl ⟨by rfl, ?hy8⟩) (by assumption) ?rest8
                case hy8 => (intro W hSw; go_simp; (try rw [HQI.out]); try with_reducible rfl)
                try simp only [Act.put, List.setIfInBounds_toArray, List.set_cons_zero, List.set_cons_succ]
                refine wpAnyH_take (i := 11) (oi := ⟨some 115, _, _, _, _, _⟩) (v := ?v9) rfl (by kernel_rfl) (by kernel_rfl) (by kernel_rfl) (fun _ _ _ h => h) (Or.inl ⟨by rfl, ?hy9⟩) (by assumption) ?rest9
                case hy9 => (intro W hSw; go_simp; (try rw [HQI.out]); try with_reducible rfl)
                try simp only [Act.put, List.setIfInBounds_toArray, List.set_cons_zero, List.set_cons_succ]
                refine wpAnyH_take (i := 12) (oi := ⟨some 116, _, _, _, _, _⟩) (v := ?v10) rfl (by kernel_rfl) (by kernel_rfl) (by kernel_rfl) (fun _ _ _ h => h) (Or.inl ⟨by rfl, ?hy10⟩) (by assumption) ?rest10
                case hy10 => (intro W hSw; go_simp; (try rw [HQI.out]); try with_reducible rfl)
                try simp only [Act.put, List.setIfInBounds_toArray, List.set_cons_zero, List.set_cons_succ]
                refine wpAnyH_take (i := 13) (oi := ⟨some 117, _, _, _, _, _⟩) (v := ?v11) rfl (by kernel_rfl) (by kernel_rfl) (by kernel_rfl) (fun _ _ _ h => h) (Or.inl ⟨by rfl, ?hy11⟩) (by assumption) ?rest11
                case hy11 => (intro W hSw; go_simp; (try rw [HQI.out]); try with_reducible rfl)
                try simp only [Act.put, List.setIfInBounds_toArray, List.set_cons_zero, List.set_cons_succ]
                refine held_one (i := 7) (o := ⟨some 111, _, _, _, _, _⟩) rfl (by kernel_rfl) (by rfl) (fun K hK => ?_)
                go_simp
                refine (dirty_len p V D 4 ms ds s _ (HPW.out.keep hHeld.1) (W0.take s) 0 HDs.out HQL.out).mono ?_
                rintro e y7 ⟨A7, c7, rfl, hv7, hk7⟩
                have HV7 := hide hv7
                refine hK.out _ _ (by exact held_vals hHeld hk7) (fun hHeld => ?_)
                clear hK K
                try simp only [Act.put, List.setIfInBounds_toArray, List.set_cons_zero, List.set_cons_succ]
                refine held_one (i := 14) (o := ⟨some 118, _, _, _, _, _⟩) rfl (by kernel_rfl) (by rfl) (fun K hK => ?_)
                go_simp
                refine (ints_any A7 none 0 0 c7 0 (W0.take s) (W0.take s) _ HQL.out HQL.out HV7.out (HWQ.out _ _ hHeld.2) (by omega)).mono ?_
                rintro e y14 ⟨rfl, hk14⟩
                rw [show decide (W0.take s = W0.take s) = true by simp]
                refine hK.out _ _ (by exact held_vals hHeld hk14) (fun hHeld => ?_)
                clear hK K
                try simp only [Act.put, List.setIfInBounds_toArray, List.set_cons_zero, List.set_cons_succ]
                refine wpAnyH_take (i := 15) (oi := ⟨some 119, _, _, _, _, _⟩) (v := ?v12) rfl (by kernel_rfl) (by kernel_rfl) (by kernel_rfl) (fun _ _ _ h => h) (Or.inl ⟨by rfl, ?hy12⟩) (by assumption) ?rest12
                case hy12 => (intro W hSw; go_simp; (try rw [HQI.out]); try with_reducible rfl)
                try simp only [Act.put, List.setIfInBounds_toArray, List.set_cons_zero, List.set_cons_succ]
                refine wpAnyH_take (i := 16) (oi := ⟨some 120, _, _, _, _, _⟩) (v := ?v13) rfl (by kernel_rfl) (by kernel_rfl) (by kernel_rfl) (fun _ _ _ h => h) (Or.inl ⟨by rfl, ?hy13⟩) (by assumption) ?rest13
                case hy13 => (intro W hSw; go_simp; (try rw [HQI.out]); try with_reducible rfl)
                try simp only [Act.put, List.setIfInBounds_toArray, List.set_cons_zero, List.set_cons_succ]
                refine wpAnyH_take (i := 17) (oi := ⟨some 121, _, _, _, _, _⟩) (v := ?v14) rfl (by kernel_rfl) (by kernel_rfl) (by kernel_rfl) (fun _ _ _ h => h) (Or.inl ⟨by rfl, ?hy14⟩) (by assumption) ?rest14
                case hy14 => (intro W hSw; go_simp; (try rw [HQI.out]); try with_reducible rfl)
                try simp only [Act.put, List.setIfInBounds_toArray, List.set_cons_zero, List.set_cons_succ]
                refine wpAnyH_take (i := 19) (oi := ⟨some 123, _, _, _, _, _⟩) (v := ?v15) rfl (by kernel_rfl) (by kernel_rfl) (by kernel_rfl) (fun _ _ _ h => h) (Or.inl ⟨by rfl, ?hy15⟩) (by assumption) ?rest15
                case hy15 => (intro W hSw; go_simp; (try rw [HQI.out]); try with_reducible rfl)
                try simp only [Act.put, List.setIfInBounds_toArray, List.set_cons_zero, List.set_cons_succ]
                refine held_one (i := 18) (o := ⟨some 122, _, _, _, _, _⟩) rfl (by kernel_rfl) (by rfl) (fun K hK => ?_)
                go_simp
                refine (dirty_len p V D 4 ms ds 100 _ (HPW.out.keep hHeld.1) W0 0 HD100.out HNW.out).mono ?_
                rintro e y18 ⟨A18, c18, rfl, hv18, hk18⟩
                have HV18 := hide hv18
                refine hK.out _ _ (by exact held_vals hHeld hk18) (fun hHeld => ?_)
                clear hK K
                try simp only [Act.put, List.setIfInBounds_toArray, List.set_cons_zero, List.set_cons_succ]
                refine held_one (i := 20) (o := ⟨some 124, _, _, _, _, _⟩) rfl (by kernel_rfl) (by rfl) (fun K hK => ?_)
                go_simp
                refine (ints_any A18 none 0 0 c18 0 W0 W0 _ HNW.out HNW.out HV18.out hHeld.2 (by omega)).mono ?_
                rintro e y20 ⟨rfl, hk20⟩
                rw [show decide (W0 = W0) = true by simp]
                refine hK.out _ _ (by exact held_vals hHeld hk20) (fun hHeld => ?_)
                clear hK K
                try simp only [Act.put, List.setIfInBounds_toArray, List.set_cons_zero, List.set_cons_succ]
                refine wpAnyH_take (i := 21) (oi := ⟨some 125, _, _, _, _, _⟩) (v := ?v16) rfl (by kernel_rfl) (by kernel_rfl) (by kernel_rfl) (fun _ _ _ h => h) (Or.inl ⟨by rfl, ?hy16⟩) (by assumption) ?rest16
                case hy16 => (intro W hSw; go_simp; (try rw [HQI.out]); try with_reducible rfl)
                try simp only [Act.put, List.setIfInBounds_toArray, List.set_cons_zero, List.set_cons_succ]
                refine wpAnyH_take (i := 22) (oi := ⟨some 126, _, _, _, _, _⟩) (v := ?v17) rfl (by kernel_rfl) (by kernel_rfl) (by kernel_rfl) (fun _ _ _ h => h) (Or.inl ⟨by rfl, ?hy17⟩) (by assumption) ?rest17
                case hy17 => (intro W hSw; go_simp; (try rw [HQI.out]); try with_reducible rfl)
                try simp only [Act.put, List.setIfInBounds_toArray, List.set_cons_zero, List.set_cons_succ]
                refine held_one (i := 23) (o := ⟨some 127, _, _, _, _, _⟩) rfl (by kernel_rfl) (by rfl) (fun K hK => ?_)
                go_simp
                refine (awake_any _).mono ?_
                rintro e y23 ⟨rfl, hk23⟩
                refine hK.out _ _ (by exact held_vals hHeld hk23) (fun hHeld => ?_)
                clear hK K
                try simp only [Act.put, List.setIfInBounds_toArray, List.set_cons_zero, List.set_cons_succ]
                refine wpAnyH_take (i := 24) (oi := ⟨some 128, _, _, _, _, _⟩) (v := ?v18) rfl (by kernel_rfl) (by kernel_rfl) (by kernel_rfl) (fun _ _ _ h => h) (Or.inl ⟨by rfl, ?hy18⟩) (by assumption) ?rest18
                case hy18 => (intro W hSw; go_simp; (try rw [HQI.out]); try with_reducible rfl)
                try simp only [Act.put, List.setIfInBounds_toArray, List.set_cons_zero, List.set_cons_succ]
                refine wpAnyH_take (i := 25) (oi := ⟨some 6, _, _, _, _, _⟩) (v := ?v19) rfl (by kernel_rfl) (by kernel_rfl) (by kernel_rfl) (fun _ _ _ h => h) (Or.inl ⟨by rfl, ?hy19⟩) (by assumption) ?rest19
                case hy19 => (intro W hSw; go_simp; (try rw [HQI.out]); try with_reducible rfl)
                try simp only [Act.put, List.setIfInBounds_toArray, List.set_cons_zero, List.set_cons_succ]
                refine wpAnyH_done (by kernel_rfl) ?_ _
                refine NoPanic.normal ?_
                have HKF := hide (HKW.out.trans hHeld.1 (by simp))
                clear hHeld
                go_wp2
                go_ret
                exact ⟨rfl, HKF.out.below (by simp)⟩
              · rw [hu] at he
                cases he
                subst hu
                have hqc : q ≤ wc := by omega
                have HS3 : Hid (Kept [] wr wr ∧ Vals wr [] (some ⟨g, 0, none⟩) (W0.map I)) := hide ⟨Kept.refl _ _, HWV.out⟩
                clear hs hW0 hnW hwv hq HL
                go_wp2_with fail
                refine (round_any a2 11 _ (by omega) (by omega)).mono ?_
                rintro e wn ⟨rfl, rfl⟩
                rw [HR.out]
                go_wp2
                refine wp_region_noPanic ?_
                refine wp_region_held_drew (S := fun W => Kept [] wr W ∧ Vals W [] (some ⟨g, 0, none⟩) (W0.map I)) (by kernel_rfl) (by exact ⟨HS3.out.1.drew, HS3.out.2⟩) (fun hHeld => ?_)
                refine wpAnyH_take (i := 0) (oi := ⟨some 104, _, _, _, _, _⟩) (v := ?v20) rfl (by kernel_rfl) (by kernel_rfl) (by kernel_rfl) (fun _ _ _ h => h) (Or.inl ⟨by rfl, ?hy20⟩) (by assumption) ?rest20
                case hy20 => (intro W hSw; go_simp; (try rw [HQI.out]); try with_reducible rfl)
                try simp only [Act.put, List.setIfInBounds_toArray, List.set_cons_zero, List.set_cons_succ]
                refine wpAnyH_take (i := 2) (oi := ⟨some 106, _, _, _, _, _⟩) (v := ?v21) rfl (by kernel_rfl) (by kernel_rfl) (by kernel_rfl) (fun _ _ _ h => h) (Or.inl ⟨by rfl, ?hy21⟩) (by assumption) ?rest21
                case hy21 => (intro W hSw; go_simp; (try rw [HQI.out]); try with_reducible rfl)
                try simp only [Act.put, List.setIfInBounds_toArray, List.set_cons_zero, List.set_cons_succ]
                refine held_one (i := 1) (o := ⟨some 105, _, _, _, _, _⟩) rfl (by kernel_rfl) (by rfl) (fun K hK => ?_)
                go_simp
                refine (dirty_len p V D 4 ms ds 100 _ (HPW.out.keep hHeld.1) W0 nW HD100.out HNW.out).mono ?_
                rintro e y1 ⟨A1, c1, rfl, hv1, hk1⟩
                have HV1 := hide hv1
                refine hK.out _ _ (by exact held_vals hHeld hk1) (fun hHeld => ?_)
                clear hK K
                try simp only [Act.put, List.setIfInBounds_toArray, List.set_cons_zero, List.set_cons_succ]
                refine held_one (i := 3) (o := ⟨some 107, _, _, _, _, _⟩) rfl (by kernel_rfl) (by rfl) (fun K hK => ?_)
                go_simp
                refine (ints_any A1 (some ⟨g, 0, none⟩) nW nW c1 wc W0 W0 _ HNW.out HNW.out HV1.out hHeld.2 (by omega)).mono ?_
                rintro e y3 ⟨rfl, hk3⟩
                rw [show decide (W0 = W0) = true by simp]
                refine hK.out _ _ (by exact held_vals hHeld hk3) (fun hHeld => ?_)
                clear hK K
                try simp only [Act.put, List.setIfInBounds_toArray, List.set_cons_zero, List.set_cons_succ]
                refine wpAnyH_take (i := 4) (oi := ⟨some 108, _, _, _, _, _⟩) (v := ?v22) rfl (by kernel_rfl) (by kernel_rfl) (by kernel_rfl) (fun _ _ _ h => h) (Or.inl ⟨by rfl, ?hy22⟩) (by assumption) ?rest22
                case hy22 => (intro W hSw; go_simp; (try rw [HQI.out]); try with_reducible rfl)
                try simp only [Act.put, List.setIfInBounds_toArray, List.set_cons_zero, List.set_cons_succ]
                refine wpAnyH_take (i := 5) (oi := ⟨some 109, _, _, _, _, _⟩) (v := ?v23) rfl (by kernel_rfl) (by kernel_rfl) (by kernel_rfl) (fun _ _ _ h => h) (Or.inl ⟨by rfl, ?hy23⟩) (by assumption) ?rest23
                case hy23 => (intro W hSw; go_simp; (try rw [HQI.out]); try with_reducible rfl)
                try simp only [Act.put, List.setIfInBounds_toArray, List.set_cons_zero, List.set_cons_succ]
                refine wpAnyH_take (i := 6) (oi := ⟨some 110, _, _, _, _, _⟩) (v := ?v24) rfl (by kernel_rfl) (by kernel_rfl) (by kernel_rfl) (fun _ _ _ h => h) (Or.inl ⟨by rfl, ?hy24⟩) (by assumption) ?rest24
                case hy24 => (intro W hSw; go_simp; (try rw [HQI.out]); try with_reducible rfl)
                try simp only [Act.put, List.setIfInBounds_toArray, List.set_cons_zero, List.set_cons_succ]
                refine wpAnyH_take (i := 8) (oi := ⟨some 112, _, _, _, _, _⟩) (v := ?v25) rfl (by kernel_rfl) (by kernel_rfl) (by kernel_rfl) (fun _ _ _ h => h) (Or.inl ⟨by rfl, ?hy25⟩) (by assumption) ?rest25
                case hy25 => (intro W hSw; go_simp; (try rw [HQI.out]); try with_reducible rfl)
                try simp only [Act.put, List.setIfInBounds_toArray, List.set_cons_zero, List.set_cons_succ]
                refine wpAnyH_take (i := 9) (oi := ⟨some 113, _, _, _, _, _⟩) (v := ?v26) rfl (by kernel_rfl) (by kernel_rfl) (by kernel_rfl) (fun _ _ _ h => h) (Or.inl ⟨by rfl, ?hy26⟩) (by assumption) ?rest26
                case hy26 => (intro W hSw; go_simp; (try rw [HQI.out]); try with_reducible rfl)
                try simp only [Act.put, List.setIfInBounds_toArray, List.set_cons_zero, List.set_cons_succ]
                refine wpAnyH_take (i := 10) (oi := ⟨some 114, _, _, _, _, _⟩) (v := ?v27) rfl (by kernel_rfl) (by kernel_rfl) (by kernel_rfl) (fun _ _ _ h => h) (Or.inl ⟨by rfl, ?hy27⟩) (by assumption) ?rest27
                case hy27 => (intro W hSw; go_simp; (try rw [HQI.out]); try with_reducible rfl)
                try simp only [Act.put, List.setIfInBounds_toArray, List.set_cons_zero, List.set_cons_succ]
                refine wpAnyH_take (i := 11) (oi := ⟨some 115, _, _, _, _, _⟩) (v := ?v28) rfl (by kernel_rfl) (by kernel_rfl) (by kernel_rfl) (fun _ _ _ h => h) (Or.inl ⟨by rfl, ?hy28⟩) (by assumption) ?rest28
                case hy28 => (intro W hSw; go_simp; (try rw [HQI.out]); try with_reducible rfl)
                try simp only [Act.put, List.setIfInBounds_toArray, List.set_cons_zero, List.set_cons_succ]
                refine wpAnyH_take (i := 12) (oi := ⟨some 116, _, _, _, _, _⟩) (v := ?v29) rfl (by kernel_rfl) (by kernel_rfl) (by kernel_rfl) (fun _ _ _ h => h) (Or.inl ⟨by rfl, ?hy29⟩) (by assumption) ?rest29
                case hy29 => (intro W hSw; go_simp; (try rw [HQI.out]); try with_reducible rfl)
                try simp only [Act.put, List.setIfInBounds_toArray, List.set_cons_zero, List.set_cons_succ]
                refine wpAnyH_take (i := 13) (oi := ⟨some 117, _, _, _, _, _⟩) (v := ?v30) rfl (by kernel_rfl) (by kernel_rfl) (by kernel_rfl) (fun _ _ _ h => h) (Or.inl ⟨by rfl, ?hy30⟩) (by assumption) ?rest30
                case hy30 => (intro W hSw; go_simp; (try rw [HQI.out]); try with_reducible rfl)
                try simp only [Act.put, List.setIfInBounds_toArray, List.set_cons_zero, List.set_cons_succ]
                refine held_one (i := 7) (o := ⟨some 111, _, _, _, _, _⟩) rfl (by kernel_rfl) (by rfl) (fun K hK => ?_)
                go_simp
                refine (dirty_len p V D 4 ms ds s _ (HPW.out.keep hHeld.1) (W0.take s) q HDs.out HQL.out).mono ?_
                rintro e y7 ⟨A7, c7, rfl, hv7, hk7⟩
                have HV7 := hide hv7
                refine hK.out _ _ (by exact held_vals hHeld hk7) (fun hHeld => ?_)
                clear hK K
                try simp only [Act.put, List.setIfInBounds_toArray, List.set_cons_zero, List.set_cons_succ]
                refine held_one (i := 14) (o := ⟨some 118, _, _, _, _, _⟩) rfl (by kernel_rfl) (by rfl) (fun K hK => ?_)
                go_simp
                refine (ints_any A7 (some ⟨g, 0, none⟩) q q c7 wc (W0.take s) (W0.take s) _ HQL.out HQL.out HV7.out (HWQ.out _ _ hHeld.2) (by omega)).mono ?_
                rintro e y14 ⟨rfl, hk14⟩
                rw [show decide (W0.take s = W0.take s) = true by simp]
                refine hK.out _ _ (by exact held_vals hHeld hk14) (fun hHeld => ?_)
                clear hK K
                try simp only [Act.put, List.setIfInBounds_toArray, List.set_cons_zero, List.set_cons_succ]
                refine wpAnyH_take (i := 15) (oi := ⟨some 119, _, _, _, _, _⟩) (v := ?v31) rfl (by kernel_rfl) (by kernel_rfl) (by kernel_rfl) (fun _ _ _ h => h) (Or.inl ⟨by rfl, ?hy31⟩) (by assumption) ?rest31
                case hy31 => (intro W hSw; go_simp; (try rw [HQI.out]); try with_reducible rfl)
                try simp only [Act.put, List.setIfInBounds_toArray, List.set_cons_zero, List.set_cons_succ]
                refine wpAnyH_take (i := 16) (oi := ⟨some 120, _, _, _, _, _⟩) (v := ?v32) rfl (by kernel_rfl) (by kernel_rfl) (by kernel_rfl) (fun _ _ _ h => h) (Or.inl ⟨by rfl, ?hy32⟩) (by assumption) ?rest32
                case hy32 => (intro W hSw; go_simp; (try rw [HQI.out]); try with_reducible rfl)
                try simp only [Act.put, List.setIfInBounds_toArray, List.set_cons_zero, List.set_cons_succ]
                refine wpAnyH_take (i := 17) (oi := ⟨some 121, _, _, _, _, _⟩) (v := ?v33) rfl (by kernel_rfl) (by kernel_rfl) (by kernel_rfl) (fun _ _ _ h => h) (Or.inl ⟨by rfl, ?hy33⟩) (by assumption) ?rest33
                case hy33 => (intro W hSw; go_simp; (try rw [HQI.out]); try with_reducible rfl)
                try simp only [Act.put, List.setIfInBounds_toArray, List.set_cons_zero, List.set_cons_succ]
                refine wpAnyH_take (i := 19) (oi := ⟨some 123, _, _, _, _, _⟩) (v := ?v34) rfl (by kernel_rfl) (by kernel_rfl) (by kernel_rfl) (fun _ _ _ h => h) (Or.inl ⟨by rfl, ?hy34⟩) (by assumption) ?rest34
                case hy34 => (intro W hSw; go_simp; (try rw [HQI.out]); try with_reducible rfl)
                try simp only [Act.put, List.setIfInBounds_toArray, List.set_cons_zero, List.set_cons_succ]
                refine held_one (i := 18) (o := ⟨some 122, _, _, _, _, _⟩) rfl (by kernel_rfl) (by rfl) (fun K hK => ?_)
                go_simp
                refine (dirty_len p V D 4 ms ds 100 _ (HPW.out.keep hHeld.1) W0 nW HD100.out HNW.out).mono ?_
                rintro e y18 ⟨A18, c18, rfl, hv18, hk18⟩
                have HV18 := hide hv18
                refine hK.out _ _ (by exact held_vals hHeld hk18) (fun hHeld => ?_)
                clear hK K
                try simp only [Act.put, List.setIfInBounds_toArray, List.set_cons_zero, List.set_cons_succ]
                refine held_one (i := 20) (o := ⟨some 124, _, _, _, _, _⟩) rfl (by kernel_rfl) (by rfl) (fun K hK => ?_)
                go_simp
                refine (ints_any A18 (some ⟨g, 0, none⟩) nW nW c18 wc W0 W0 _ HNW.out HNW.out HV18.out hHeld.2 (by omega)).mono ?_
                rintro e y20 ⟨rfl, hk20⟩
                rw [show decide (W0 = W0) = true by simp]
                refine hK.out _ _ (by exact held_vals hHeld hk20) (fun hHeld => ?_)
                clear hK K
                try simp only [Act.put, List.setIfInBounds_toArray, List.set_cons_zero, List.set_cons_succ]
                refine wpAnyH_take (i := 21) (oi := ⟨some 125, _, _, _, _, _⟩) (v := ?v35) rfl (by kernel_rfl) (by kernel_rfl) (by kernel_rfl) (fun _ _ _ h => h) (Or.inl ⟨by rfl, ?hy35⟩) (by assumption) ?rest35
                case hy35 => (intro W hSw; go_simp; (try rw [HQI.out]); try with_reducible rfl)
                try simp only [Act.put, List.setIfInBounds_toArray, List.set_cons_zero, List.set_cons_succ]
                refine wpAnyH_take (i := 22) (oi := ⟨some 126, _, _, _, _, _⟩) (v := ?v36) rfl (by kernel_rfl) (by kernel_rfl) (by kernel_rfl) (fun _ _ _ h => h) (Or.inl ⟨by rfl, ?hy36⟩) (by assumption) ?rest36
                case hy36 => (intro W hSw; go_simp; (try rw [HQI.out]); try with_reducible rfl)
                try simp only [Act.put, List.setIfInBounds_toArray, List.set_cons_zero, List.set_cons_succ]
                refine held_one (i := 23) (o := ⟨some 127, _, _, _, _, _⟩) rfl (by kernel_rfl) (by rfl) (fun K hK => ?_)
                go_simp
                refine (awake_any _).mono ?_
                rintro e y23 ⟨rfl, hk23⟩
                refine hK.out _ _ (by exact held_vals hHeld hk23) (fun hHeld => ?_)
                clear hK K
                try simp only [Act.put, List.setIfInBounds_toArray, List.set_cons_zero, List.set_cons_succ]
                refine wpAnyH_take (i := 24) (oi := ⟨some 128, _, _, _, _, _⟩) (v := ?v37) rfl (by kernel_rfl) (by kernel_rfl) (by kernel_rfl) (fun _ _ _ h => h) (Or.inl ⟨by rfl, ?hy37⟩) (by assumption) ?rest37
                case hy37 => (intro W hSw; go_simp; (try rw [HQI.out]); try with_reducible rfl)
                try simp only [Act.put, List.setIfInBounds_toArray, List.set_cons_zero, List.set_cons_succ]
                refine wpAnyH_take (i := 25) (oi := ⟨some 6, _, _, _, _, _⟩) (v := ?v38) rfl (by kernel_rfl) (by kernel_rfl) (by kernel_rfl) (fun _ _ _ h => h) (Or.inl ⟨by rfl, ?hy38⟩) (by assumption) ?rest38
                case hy38 => (intro W hSw; go_simp; (try rw [HQI.out]); try with_reducible rfl)
                try simp only [Act.put, List.setIfInBounds_toArray, List.set_cons_zero, List.set_cons_succ]
                refine wpAnyH_done (by kernel_rfl) ?_ _
                refine NoPanic.normal ?_
                have HKF := hide (HKW.out.trans hHeld.1 (by simp))
                clear hHeld
                go_wp2
                go_ret
                exact ⟨rfl, HKF.out.below (by simp)⟩

/-! ### the row's step, as the guide's skeleton has it -/
set_option maxRecDepth 100000 in
theorem lifted (os : Os) (started : os.Started) (H : Type) (enc : TypeId × Value → H) :
    ReturnsInHanded {} Try.checked os 5 .any (Rows.pagedDirtySpec.pre6 enc Try.prog Try.f5 Rows.pagedDirtyRow.domain false) (Rows.pagedDirtySpec.post enc Try.prog Try.f5 false true false false) := by
  refine returnsInHanded_of_change (C := Try.checked) own started (by kernel_rfl) Try.func5
    (ChangeSpec.witness6 (enc := enc) (C := Try.checked) false ⟨#[], #[.slice none 0 0, .slice none 0 0, .int .i64 0], []⟩ 8 (by kernel_rfl) (by kernel_rfl) (by kernel_rfl) (by kernel_rfl)) ?_
  intro W base args ds gs before hval0 hW hcnd _
  have hval : ∀ (j : Nat) t v, Try.f5.params[j]? = some t → args[j]? = some v → Value.okWide Try.prog W .any base t v := hval0
  have hW' := hW
  obtain ⟨p, q, hA0, hV, rfl, hfz, hnd⟩ := hW
  have hA : DataW.TrodAll enc Try.prog W 0 (fun _ => true) true Try.f5.params.toList args.toList ds p := hA0
  rw [Try.params5] at hA hval
  obtain ⟨v0, vs0, d0, ds0, p0, q0, hargs, rfl, rfl, h0, r0⟩ := trodAll_cons hA
  obtain ⟨v1, vs1, d1, ds1, p1, q1, rfl, rfl, rfl, h1, r1⟩ := trodAll_cons r0
  obtain ⟨v2, vs2, d2, ds2, p2, q2, rfl, rfl, rfl, h2, r2⟩ := trodAll_cons r1
  obtain ⟨rfl, rfl, rfl⟩ := trodAll_nil r2
  obtain rfl : args = #[v0, v1, v2] := by cases args; simp_all
  obtain ⟨rfl, rfl⟩ := trodVars_none hV
  obtain ⟨a0, len0, cap0, rfl⟩ := okWide_slice Try.underlying42 (hval 0 42 v0 rfl rfl)
  have k0 := h0
  have lt0 : ∀ x ∈ p0, x.block < W.heap.size := by obtain ⟨m, hm⟩ := k0; exact DataW.trod_lt m _ _ _ hm
  obtain ⟨l0, e0, w0, b0⟩ : ∃ l : List (List Int), l.length = len0 ∧ Slab W 2 a0 l ∧ len0 ≤ cap0 ∧ cap0 ≤ maxLen := by
    obtain ⟨fuel, hf⟩ := h0
    exact slab_of Try.underlying42 (by kernel_rfl) (fun _ cs x hl h => array_cells Try.underlying3 (by kernel_rfl) Try.underlying43 (by kernel_rfl) _ cs x hl h) hf
  obtain ⟨a1, len1, cap1, rfl⟩ := okWide_slice Try.underlying42 (hval 1 42 v1 rfl rfl)
  have k1 := h1
  have lt1 : ∀ x ∈ p1, x.block < W.heap.size := by obtain ⟨m, hm⟩ := k1; exact DataW.trod_lt m _ _ _ hm
  obtain ⟨l1, e1, w1, b1⟩ : ∃ l : List (List Int), l.length = len1 ∧ Slab W 2 a1 l ∧ len1 ≤ cap1 ∧ cap1 ≤ maxLen := by
    obtain ⟨fuel, hf⟩ := h1
    exact slab_of Try.underlying42 (by kernel_rfl) (fun _ cs x hl h => array_cells Try.underlying3 (by kernel_rfl) Try.underlying43 (by kernel_rfl) _ cs x hl h) hf
  obtain ⟨a2, rfl, rfl, rfl, w2⟩ := open_int Try.underlying3 (hval 2 3 v2 rfl rfl) h2
  clear hA0 hval0
  refine (walk a0 len0 cap0 l0 a1 len1 cap1 l1 a2 W w0 e0 b0 w1 e1 b1 w2).mono fun e W' ⟨he, bel⟩ => ?_
  subst he
  exact ⟨_, rfl, _, _, _, [], _, [], hW', trodAll_mk1 (shut_bool Try.underlying4 _), (trodAll_cons_mk (Below.trod laidOut (by kernel_rfl) (of_decide_eq_true (by kernel_rfl)) k0 bel lt0) (trodAll_cons_mk (Below.trod laidOut (by kernel_rfl) (of_decide_eq_true (by kernel_rfl)) k1 bel lt1) (trodAll_cons_mk (shut_int Try.underlying3 w2) trodAll_mk0))), rfl, bel.frame _, fun h => by cases h⟩

theorem over : Rows.pagedDirtyRow.holds Try.pinned (OpenSpec.ofChange Rows.pagedDirtySpec) :=
  OpenClaim.holds_of_wide 5 Try.f5 rfl rfl rfl rfl rfl rfl rfl ⟨rfl, rfl, rfl, rfl, rfl⟩ rfl rfl rfl rfl rfl (by kernel_rfl) Try.func5 (by kernel_rfl)
    (of_decide_eq_true (by kernel_rfl)) (by unfold Func.isWrapper; first | (rw [if_pos (by decide +kernel)]; kernel_rfl) | (rw [if_neg (by decide +kernel)]; exact ⟨rfl, rfl⟩))
    (fun os started H enc _ => lifted os started H enc)

/-- The statement. -/
theorem proved : Rows.PagedDirtySaid := over
#print axioms proved
end Go.Proofs.Ytfiddfanekblmaa.pagedDirty

