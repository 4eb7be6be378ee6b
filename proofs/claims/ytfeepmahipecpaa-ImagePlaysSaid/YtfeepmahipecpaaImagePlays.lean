/-
  The given statement ImagePlaysSaid is proved: whatever the arguments are, the law returns true and leaves its input as it was. No conditions.
-/
import Derived.Test.YtfeepmahipecpaaShapes
import Derived.Test.YtfeepmahipecpaaSlabs
import Derived.Test.YtfeepmahipecpaaImageAwake
import Derived.Test.YtfeepmahipecpaaImageSame
import Derived.Test.YtfeepmahipecpaaImagePlaysB
import Derived.Deep.CutRange
import Derived.Deep.CutBlock
import Derived.StillTailTactics
import Derived.Test.YtfeepmahipecpaaAlike
import Derived.Test.YtfeepmahipecpaaOwns
import Derived.Test.YtfeepmahipecpaaFar
import Derived.WalkKit
import Derived.ProofKit
import Derived.OpenShut
import Derived.ShutString
import Derived.ChangeOld
import Derived.Below
namespace Go.Proofs.Ytfeepmahipecpaa.imagePlays
open Go.ChangeShapes Go.WideShapes Go.ChangeAt Go.RowKit
open Go.ChangeMaps (open_string shut_string)
open Go.Proofs.Ytfeepmahipecpaa.mem Go.Proofs.Ytfeepmahipecpaa.base Go.Proofs.Ytfeepmahipecpaa.im Go.Proofs.Ytfeepmahipecpaa.pd Go.Proofs.Ytfeepmahipecpaa.pg Go.Proofs.Ytfeepmahipecpaa.owns
set_option linter.unusedVariables false

theorem own : ownKnob Try.prog.godebug = none := by kernel_rfl
theorem laidOut : laidOutB Try.prog = true := by kernel_rfl

set_option linter.unusedSimpArgs false
set_option maxRecDepth 100000 in
set_option maxHeartbeats 24000000 in
theorem walk (a0 : Int) (a1 : Option Addr) (len1 cap1 : Nat) (w : World) (w0 : (Lit.int .i64 a0).wf = true) (hacts : ∀ i, i < len1 → ∃ ad, a1 = some ad ∧ ActAt w (ad.add (i * 6))) :
    Calls Try.prog 3 #[.int .i64 a0, .slice a1 len1 cap1] w fun e w' => e = .returned (.bool true) ∧ Below w.heap.size w w' := by
  by_cases hn0 : (len1 : Int) > 50
  · have hd : decide ((len1 : Int) > 50) = true := decide_eq_true hn0
    go_enter Try.func3, Try.ntmps3
    go_wp2_with fail
    refine (awake_any _).mono ?_
    rintro e w' ⟨rfl, hk⟩
    have HB := hide (hk.below (by simp))
    clear hk
    go_wp2
    go_ret
    exact ⟨rfl, HB.out⟩
  have hd : decide ((len1 : Int) > 50) = false := decide_eq_false hn0
  have hn50 : len1 ≤ 50 := by omega
  by_cases hr : 1 ≤ a0 ∧ a0 ≤ 64
  case neg =>
    go_enter Try.func3, Try.ntmps3
    go_wp2_with fail
    refine (inew_no a0 _ hr).mono ?_
    rintro e w' ⟨rfl, rfl⟩
    go_wp2_with fail
    refine (rnew_no a0 _ hr).mono ?_
    rintro e w' ⟨rfl, rfl⟩
    go_wp2_with fail
    refine (awake_any _).mono ?_
    rintro e w' ⟨rfl, hk⟩
    have HB := hide (hk.below (by simp))
    clear hk
    go_wp2
    go_ret
    exact ⟨rfl, HB.out⟩
  obtain ⟨n, rfl⟩ : ∃ n : Nat, a0 = (n : Int) := ⟨a0.toNat, by omega⟩
  have HACT := hide hacts
  have hb1 : 1 ≤ n := by omega
  have hb2 : n ≤ 64 := by omega
  clear hacts hn0 hr w0
  go_enter Try.func3, Try.ntmps3
  go_wp2_with fail
  refine (inew_yes n _ hb1 hb2).mono ?_
  rintro e wA ⟨X, rfl, hxn, hi, hk⟩
  obtain ⟨z, hz⟩ : ∃ z, wA.heap.size = z := ⟨_, rfl⟩
  have HXZ := hide (show ∀ y ∈ X.all, w.heap.size ≤ y ∧ y < z from fun y hy => ⟨hxn y hy, by rw [← hz]; exact hi.lt y hy⟩)
  have HWZ := hide (show w.heap.size ≤ z from by rw [← hz]; exact hk.size)
  have HIA := hide hi
  have HKA := hide hk
  clear hxn hi hk
  go_wp2_with fail
  refine (rnew_yes n _ hb1 hb2).mono ?_
  rintro e wB ⟨p, V, U, D0, E0, c, rfl, hpn, hri, hk⟩
  rw [hz] at hpn
  have HSP0 := hide hpn
  have HIM0 := hide (HIA.out.keep hk)
  have HRI0 := hide hri
  have HKR0 := hide (HKA.out.trans hk (by simp))
  have HGM0 := hide (GM.fresh n)
  have HBL := hide (blocks_any HIM0.out)
  rw [show (Im.fresh n).b.l.length = n from by simp [Im.fresh]] at HBL
  have hnn : ((n : Int) != (n : Int)) = false := by simp
  clear hpn hri hk hz HIA HKA
  have HA1 := hide (show ∀ (W W' : World) (M : Im) (D E : Nat), IAt W X M → (∀ y ∈ [p, V, U, D, E], z ≤ y) → ∀ S, (∀ y ∈ S, y ∈ [p, V, U, D, E]) → Kept S W W' → IAt W' X M from fun W W' M D E h hs S hS k => h.kept k (fun y hy hm => by have h1 := (HXZ.out y hy).2; have h2 := hs y (hS y hm); omega))
  have HA2 := hide (show ∀ (W W' : World) (M : Im) (D E : Nat), RI W p V U D E c M → (∀ y ∈ [p, V, U, D, E], z ≤ y) → ∀ S, (∀ y ∈ S, y ∈ X.all) → Kept S W W' → RI W' p V U D E c M from fun W W' M D E h hs S hS k => h.kept k (fun y hy hm => by have h1 := (HXZ.out y (hS y hm)).2; have h2 := hs y hy; omega))
  have HA3 := hide (show ∀ (W W' : World) (D E : Nat), Kept [] w W → (∀ y ∈ [p, V, U, D, E], z ≤ y) → ∀ S, (∀ y ∈ S, y ∈ [p, V, U, D, E]) → Kept S W W' → Kept [] w W' from fun W W' D E h hs S hS k => h.trans k (fun y hy => .inr (by have h2 := hs y (hS y hy); have h3 := HWZ.out; omega)))
  have HA4 := hide (show ∀ (W W' : World), Kept [] w W → ∀ S, (∀ y ∈ S, y ∈ X.all) → Kept S W W' → Kept [] w W' from fun W W' h S hS k => h.trans k (fun y hy => .inr (HXZ.out y (hS y hy)).1))
  have HX4 := hide (show ∀ y ∈ [X.V, X.D, X.U, X.E], y ∈ X.all from fun y hy => by obtain ⟨m1, m2, m3, m4, m5, m6, m7⟩ := X.mem; simp only [List.mem_cons, List.not_mem_nil, or_false] at hy; rcases hy with rfl | rfl | rfl | rfl; exact m3; exact m4; exact m6; exact m7)
  have HX2 := hide (show ∀ y ∈ [X.U, X.E], y ∈ X.all from fun y hy => HX4.out y (by simp only [List.mem_cons, List.not_mem_nil, or_false] at hy ⊢; rcases hy with rfl | rfl <;> simp))
  have HXD := hide (show ∀ y ∈ [X.D, X.E], y ∈ X.all from fun y hy => HX4.out y (by simp only [List.mem_cons, List.not_mem_nil, or_false] at hy ⊢; rcases hy with rfl | rfl <;> simp))
  go_wp2_with fail
  refine HBL.out.mono ?_
  rintro e w' ⟨rfl, rfl⟩
  go_wp2
  go_loopw [7, 8, 9, 10, 11, 12, 13, 14, 15, 16] (fun i _ _ _ _ _ _ _ _ _ wr => ∃ (j : Nat) (M : Im) (D E : Nat), j ≤ len1 ∧ i = .int .i64 j ∧ Hid (IAt wr X M) ∧ Hid (RI wr p V U D E c M) ∧ Hid (GM M) ∧ Hid (∀ y ∈ [p, V, U, D, E], z ≤ y) ∧ Hid (Kept [] w wr)) (fun i _ _ _ _ _ _ _ _ _ _ => len1 - (intOf i).toNat)
  case atStart => exact ⟨0, _, D0, E0, Nat.zero_le _, rfl, HIM0, HRI0, HGM0, HSP0, HKR0⟩
  case round =>
    clear HIM0 HRI0 HGM0 HSP0 HKR0 HBL hnn
    obtain ⟨j, M, D, E, hj, rfl, HIM, HRI, HGM, HSP, HKR⟩ := hrel
    by_cases hlt : j < len1
    · obtain ⟨ad, rfl, kd, bb, nn, aa, ov, LA, l, lc, ⟨c0, c1, c2, c3, c4, c5⟩, hlc, hbb, hvl⟩ := HACT.out j hlt
      have d0 := HKR.out.cell c0 (by simp)
      have d1 := HKR.out.cell c1 (by simp)
      have d2 := HKR.out.cell c2 (by simp)
      have d3 := HKR.out.cell c3 (by simp)
      have d4 := HKR.out.cell c4 (by simp)
      have d5 := HKR.out.cell c5 (by simp)
      have HVL := hide (hvl.kept HKR.out (by simp))
      have HVW := (show ∀ W, Kept [] w W → Vals W [] LA (l.map I) from fun W k => hvl.kept k (by simp))
      have HVX := hide HVW
      clear HVW
      have HLC := hide hlc
      have HBB := hide hbb
      clear c0 c1 c2 c3 c4 c5 hvl hlc hbb
      by_cases hbig : (l.length : Int) > 40
      · have hd4 : decide ((l.length : Int) > 40) = true := decide_eq_true hbig
        go_wp2_with fail
        refine (awake_any _).mono ?_
        rintro e w7 ⟨rfl, hk7⟩
        have HK7 := hide ((HKR.out.alloc _).trans hk7 (by simp))
        clear hk7
        go_wp2
        go_ret
        exact ⟨rfl, HK7.out.below (by simp)⟩
      have hd4 : decide ((l.length : Int) > 40) = false := decide_eq_false hbig
      clear hbig
      go_upto_block 2 with fail
      obtain ⟨G, hG⟩ : ∃ G, wr.heap.size = G := ⟨_, rfl⟩
      obtain ⟨wa, hwa⟩ : ∃ wa, wr.alloc (.cells #[.int .i64 kd, .int .i64 bb, .int .i64 nn, .int .i64 aa, .bool ov, .slice LA l.length lc] 31) = wa := ⟨_, rfl⟩
      have GA : Hid (Blk wa G 31 #[.int .i64 kd, .int .i64 bb, .int .i64 nn, .int .i64 aa, .bool ov, .slice LA l.length lc]) := hide (by rw [← hwa, ← hG]; exact Blk.new _ _ _)
      have hka : Kept [] wr wa := by rw [← hwa]; exact (Kept.refl [] wr).alloc _
      have HGR := hide (show ∀ y ∈ [p, V, U, D, E], y < G from fun y hy => by have := HRI.out.lt y hy; omega)
      have HGX := hide (show ∀ y ∈ X.all, y < G from fun y hy => by have := HIM.out.lt y hy; omega)
      have HI1 := hide (HIM.out.keep hka)
      have HR1 := hide (HRI.out.keep hka)
      have HK1 := hide (HKR.out.trans hka (by simp))
      have HVa := hide (HVL.out.kept hka (by simp))
      have HBX := hide (show ∀ (W : World) (S : List Nat), (∀ y ∈ S, y ∈ X.all ∨ y ∈ [p, V, U, D, E]) → Kept S wa W → Blk W G 31 #[.int .i64 kd, .int .i64 bb, .int .i64 nn, .int .i64 aa, .bool ov, .slice LA l.length lc] from fun W S hS k => k.blk GA.out (fun hm => (hS G hm).elim (fun h => by have := HGX.out G h; omega) (fun h => by have := HGR.out G h; omega)))
      have t0 : wa.cell? ⟨G, 0, none⟩ = some (.int .i64 kd) := GA.out.cell 0
      have t1 : wa.cell? ⟨G, 1, none⟩ = some (.int .i64 bb) := GA.out.cell 1
      have t2 : wa.cell? ⟨G, 2, none⟩ = some (.int .i64 nn) := GA.out.cell 2
      have t3 : wa.cell? ⟨G, 3, none⟩ = some (.int .i64 aa) := GA.out.cell 3
      have t4 : wa.cell? ⟨G, 4, none⟩ = some (.bool ov) := GA.out.cell 4
      have t5 : wa.cell? ⟨G, 5, none⟩ = some (.slice LA l.length lc) := GA.out.cell 5
      rw [hwa, hG]
      clear hwa hG hka d0 d1 d2 d3 d4 d5 HIM HRI HKR HVL
      go_cut [9, 10, 11, 12, 13, 14, 15, 16] from 40 to 209 (fun _ _ _ _ _ _ _ _ wx => ∃ (M2 : Im) (D2 E2 : Nat), Hid (IAt wx X M2) ∧ Hid (RI wx p V U D2 E2 c M2) ∧ Hid (GM M2) ∧ Hid (∀ y ∈ [p, V, U, D2, E2], z ≤ y) ∧ Hid (Kept [] w wx))
      case first => as_aux_lemma =>
        by_cases h1 : kd = 1
        · subst h1
          obtain ⟨M', x1, x2, hR⟩ : ∃ M' x1 x2, lyR M true bb aa = (M', x1, x2) := ⟨_, _, _, rfl⟩
          have HRF := hide (rlay_all HR1.out true bb aa)
          have HGN := hide (HGM.out.ly true bb aa)
          have HPF := hide (fun W (hi : IAt W X M) => iwrite_all hi bb aa HBB.out.2)
          rw [hR] at HRF HGN
          simp only [hR] at HPF
          have e1' : (x1 != x1) = false := by simp
          have e2' : (x2 != x2) = false := by simp
          clear hR
          go_wp2_with fail
          refine HRF.out.mono ?_
          rintro e w2 ⟨rfl, hi, hk⟩
          have HR2 := hide hi
          have HI2 := hide (HA1.out _ _ _ D E HI1.out HSP.out _ (fun y hy => by simp only [List.mem_cons, List.not_mem_nil, or_false] at hy ⊢; rcases hy with rfl | rfl | rfl | rfl <;> simp) hk)
          have HK2 := hide (HA3.out _ _ D E HK1.out HSP.out _ (fun y hy => by simp only [List.mem_cons, List.not_mem_nil, or_false] at hy ⊢; rcases hy with rfl | rfl | rfl | rfl <;> simp) hk)
          have HBY := hide (HBX.out w2 _ (fun y hy => .inr (show y ∈ [p, V, U, D, E] from by simp only [List.mem_cons, List.not_mem_nil, or_false] at hy ⊢; rcases hy with rfl | rfl | rfl | rfl <;> simp)) hk)
          have u0 : w2.cell? ⟨G, 0, none⟩ = some (.int .i64 _) := HBY.out.cell 0
          have u1 : w2.cell? ⟨G, 1, none⟩ = some (.int .i64 bb) := HBY.out.cell 1
          have u2 : w2.cell? ⟨G, 2, none⟩ = some (.int .i64 nn) := HBY.out.cell 2
          have u3 : w2.cell? ⟨G, 3, none⟩ = some (.int .i64 aa) := HBY.out.cell 3
          clear hi hk t0 t1 t2 t3 t4 t5
          go_wp2_with fail
          refine (HPF.out _ HI2.out).mono ?_
          rintro e w3 ⟨rfl, hi, hk⟩
          have HI3 := hide hi
          have HR3 := hide (HA2.out _ _ _ D E HR2.out HSP.out _ HX4.out hk)
          have HK3 := hide (HA4.out _ _ HK2.out _ HX4.out hk)
          clear hi hk
          go_wp2
          go_meet
          exact ⟨M', D, E, HI3, HR3, HGN, HSP, HK3⟩
        have e1 : (kd == 1) = false := beq_eq_false_iff_ne.2 h1
        by_cases h5 : kd = 5
        · subst h5
          obtain ⟨M', x1, x2, hR⟩ : ∃ M' x1 x2, lyR M false bb aa = (M', x1, x2) := ⟨_, _, _, rfl⟩
          have HRF := hide (rlay_all HR1.out false bb aa)
          have HGN := hide (HGM.out.ly false bb aa)
          have HPF := hide (fun W (hi : IAt W X M) => iput_all hi bb aa HBB.out.2)
          rw [hR] at HRF HGN
          simp only [hR] at HPF
          have e1' : (x1 != x1) = false := by simp
          have e2' : (x2 != x2) = false := by simp
          clear hR
          go_wp2_with fail
          refine HRF.out.mono ?_
          rintro e w2 ⟨rfl, hi, hk⟩
          have HR2 := hide hi
          have HI2 := hide (HA1.out _ _ _ D E HI1.out HSP.out _ (fun y hy => by simp only [List.mem_cons, List.not_mem_nil, or_false] at hy ⊢; rcases hy with rfl | rfl | rfl | rfl <;> simp) hk)
          have HK2 := hide (HA3.out _ _ D E HK1.out HSP.out _ (fun y hy => by simp only [List.mem_cons, List.not_mem_nil, or_false] at hy ⊢; rcases hy with rfl | rfl | rfl | rfl <;> simp) hk)
          have HBY := hide (HBX.out w2 _ (fun y hy => .inr (show y ∈ [p, V, U, D, E] from by simp only [List.mem_cons, List.not_mem_nil, or_false] at hy ⊢; rcases hy with rfl | rfl | rfl | rfl <;> simp)) hk)
          have u0 : w2.cell? ⟨G, 0, none⟩ = some (.int .i64 _) := HBY.out.cell 0
          have u1 : w2.cell? ⟨G, 1, none⟩ = some (.int .i64 bb) := HBY.out.cell 1
          have u2 : w2.cell? ⟨G, 2, none⟩ = some (.int .i64 nn) := HBY.out.cell 2
          have u3 : w2.cell? ⟨G, 3, none⟩ = some (.int .i64 aa) := HBY.out.cell 3
          clear hi hk t0 t1 t2 t3 t4 t5
          go_wp2_with fail
          refine (HPF.out _ HI2.out).mono ?_
          rintro e w3 ⟨rfl, hi, hk⟩
          have HI3 := hide hi
          have HR3 := hide (HA2.out _ _ _ D E HR2.out HSP.out _ HX4.out hk)
          have HK3 := hide (HA4.out _ _ HK2.out _ HX4.out hk)
          clear hi hk
          go_wp2
          go_meet
          exact ⟨M', D, E, HI3, HR3, HGN, HSP, HK3⟩
        have e5 : (kd == 5) = false := beq_eq_false_iff_ne.2 h5
        by_cases h2 : kd = 2
        · subst h2
          obtain ⟨M', xs, x2, hR⟩ : ∃ M' x1 x2, cuR M true bb nn = (M', x1, x2) := ⟨_, _, _, rfl⟩
          have HRF := hide (rcut_all HR1.out true bb nn HBB.out)
          have HGN := hide (HGM.out.cu true bb nn)
          have HPF := hide (fun W (hi : IAt W X M) => itrim_all hi bb nn HBB.out.2)
          have HXL := hide (show (cuR M true bb nn).2.1.length ≤ 64 from by unfold cuR; split; (have h1 := gone_le M true (likes bb.toNat 0 nn.toNat); rw [likes_length] at h1; have h2 := HR1.out.small; show (M.gone true (likes bb.toNat 0 nn.toNat)).length ≤ 64; omega); simp)
          rw [hR] at HRF HGN HXL
          simp only [hR] at HPF
          have e2' : (x2 != x2) = false := by simp
          have hxl : xs.length ≤ 64 := HXL.out
          clear hR
          go_wp2_with fail
          refine HRF.out.mono ?_
          rintro e w2 ⟨v2, rfl, ho, hi, hk⟩
          obtain ⟨A2, cc2, rfl, _, hv2⟩ := own_read ho
          have HO2 := hide ho
          have HR2 := hide hi
          have HI2 := hide (HA1.out _ _ _ D E HI1.out HSP.out _ (fun y hy => by simp only [List.mem_cons, List.not_mem_nil, or_false] at hy ⊢; rcases hy with rfl | rfl | rfl | rfl <;> simp) hk)
          have HK2 := hide (HA3.out _ _ D E HK1.out HSP.out _ (fun y hy => by simp only [List.mem_cons, List.not_mem_nil, or_false] at hy ⊢; rcases hy with rfl | rfl | rfl | rfl <;> simp) hk)
          have HLO := hide (show ∀ y ∈ X.all, y < wa.heap.size from HI1.out.lt)
          have HBY := hide (HBX.out w2 _ (fun y hy => .inr (show y ∈ [p, V, U, D, E] from by simp only [List.mem_cons, List.not_mem_nil, or_false] at hy ⊢; rcases hy with rfl | rfl | rfl | rfl <;> simp)) hk)
          have u0 : w2.cell? ⟨G, 0, none⟩ = some (.int .i64 _) := HBY.out.cell 0
          have u1 : w2.cell? ⟨G, 1, none⟩ = some (.int .i64 bb) := HBY.out.cell 1
          have u2 : w2.cell? ⟨G, 2, none⟩ = some (.int .i64 nn) := HBY.out.cell 2
          have u3 : w2.cell? ⟨G, 3, none⟩ = some (.int .i64 aa) := HBY.out.cell 3
          clear ho hi hk hv2 t0 t1 t2 t3 t4 t5
          go_wp2_with fail
          refine (HPF.out _ HI2.out).mono ?_
          rintro e w3 ⟨v3, rfl, ho, hi, hk⟩
          obtain ⟨A3, cc3, rfl, _, hv3⟩ := own_read ho
          have HV3 := hide (hv3 [] (by simp))
          have HO3 := hide (own_keep HO2.out hk (fun i hi hm => by have h1 := (own_blk HO2.out i hm).1; have h2 := HLO.out i (HX4.out i hi); omega))
          obtain ⟨B2, cb2, hB2, _, hvB⟩ := own_read HO3.out
          cases hB2
          have HV2 := hide (hvB [] (by simp))
          have HI3 := hide hi
          have HR3 := hide (HA2.out _ _ _ D E HR2.out HSP.out _ HX4.out hk)
          have HK3 := hide (HA4.out _ _ HK2.out _ HX4.out hk)
          clear ho hi hk hv3 hvB
          go_wp2_with fail
          refine (pg.ints_any A3 A2 xs.length xs.length cc3 cc2 xs xs _ rfl rfl HV3.out HV2.out (by omega)).mono ?_
          rintro e w4 ⟨rfl, hk4⟩
          rw [show decide (xs = xs) = true from decide_eq_true rfl]
          have HI4 := hide (HI3.out.keep hk4)
          have HR4 := hide (HR3.out.keep hk4)
          have HK4 := hide (HK3.out.trans hk4 (by simp))
          clear hk4
          go_wp2
          go_meet
          exact ⟨M', D, E, HI4, HR4, HGN, HSP, HK4⟩
        have e2 : (kd == 2) = false := beq_eq_false_iff_ne.2 h2
        by_cases h6 : kd = 6
        · subst h6
          obtain ⟨M', xs, x2, hR⟩ : ∃ M' x1 x2, cuR M false bb nn = (M', x1, x2) := ⟨_, _, _, rfl⟩
          have HRF := hide (rcut_all HR1.out false bb nn HBB.out)
          have HGN := hide (HGM.out.cu false bb nn)
          have HPF := hide (fun W (hi : IAt W X M) => idrop_all hi bb nn HBB.out.2)
          have HXL := hide (show (cuR M false bb nn).2.1.length ≤ 64 from by unfold cuR; split; (have h1 := gone_le M false (likes bb.toNat 0 nn.toNat); rw [likes_length] at h1; have h2 := HR1.out.small; show (M.gone false (likes bb.toNat 0 nn.toNat)).length ≤ 64; omega); simp)
          rw [hR] at HRF HGN HXL
          simp only [hR] at HPF
          have e2' : (x2 != x2) = false := by simp
          have hxl : xs.length ≤ 64 := HXL.out
          clear hR
          go_wp2_with fail
          refine HRF.out.mono ?_
          rintro e w2 ⟨v2, rfl, ho, hi, hk⟩
          obtain ⟨A2, cc2, rfl, _, hv2⟩ := own_read ho
          have HO2 := hide ho
          have HR2 := hide hi
          have HI2 := hide (HA1.out _ _ _ D E HI1.out HSP.out _ (fun y hy => by simp only [List.mem_cons, List.not_mem_nil, or_false] at hy ⊢; rcases hy with rfl | rfl | rfl | rfl <;> simp) hk)
          have HK2 := hide (HA3.out _ _ D E HK1.out HSP.out _ (fun y hy => by simp only [List.mem_cons, List.not_mem_nil, or_false] at hy ⊢; rcases hy with rfl | rfl | rfl | rfl <;> simp) hk)
          have HLO := hide (show ∀ y ∈ X.all, y < wa.heap.size from HI1.out.lt)
          have HBY := hide (HBX.out w2 _ (fun y hy => .inr (show y ∈ [p, V, U, D, E] from by simp only [List.mem_cons, List.not_mem_nil, or_false] at hy ⊢; rcases hy with rfl | rfl | rfl | rfl <;> simp)) hk)
          have u0 : w2.cell? ⟨G, 0, none⟩ = some (.int .i64 _) := HBY.out.cell 0
          have u1 : w2.cell? ⟨G, 1, none⟩ = some (.int .i64 bb) := HBY.out.cell 1
          have u2 : w2.cell? ⟨G, 2, none⟩ = some (.int .i64 nn) := HBY.out.cell 2
          have u3 : w2.cell? ⟨G, 3, none⟩ = some (.int .i64 aa) := HBY.out.cell 3
          clear ho hi hk hv2 t0 t1 t2 t3 t4 t5
          go_wp2_with fail
          refine (HPF.out _ HI2.out).mono ?_
          rintro e w3 ⟨v3, rfl, ho, hi, hk⟩
          obtain ⟨A3, cc3, rfl, _, hv3⟩ := own_read ho
          have HV3 := hide (hv3 [] (by simp))
          have HO3 := hide (own_keep HO2.out hk (fun i hi hm => by have h1 := (own_blk HO2.out i hm).1; have h2 := HLO.out i (HX4.out i hi); omega))
          obtain ⟨B2, cb2, hB2, _, hvB⟩ := own_read HO3.out
          cases hB2
          have HV2 := hide (hvB [] (by simp))
          have HI3 := hide hi
          have HR3 := hide (HA2.out _ _ _ D E HR2.out HSP.out _ HX4.out hk)
          have HK3 := hide (HA4.out _ _ HK2.out _ HX4.out hk)
          clear ho hi hk hv3 hvB
          go_wp2_with fail
          refine (pg.ints_any A3 A2 xs.length xs.length cc3 cc2 xs xs _ rfl rfl HV3.out HV2.out (by omega)).mono ?_
          rintro e w4 ⟨rfl, hk4⟩
          rw [show decide (xs = xs) = true from decide_eq_true rfl]
          have HI4 := hide (HI3.out.keep hk4)
          have HR4 := hide (HR3.out.keep hk4)
          have HK4 := hide (HK3.out.trans hk4 (by simp))
          clear hk4
          go_wp2
          go_meet
          exact ⟨M', D, E, HI4, HR4, HGN, HSP, HK4⟩
        have e6 : (kd == 6) = false := beq_eq_false_iff_ne.2 h6
        by_cases h3 : kd = 3
        · subst h3
          have HXL := hide (show M.went.length ≤ 64 from by have h1 := gone_le M false (pendL M.o.l); have h2 := pendL_length M.o.l; have h3 := HI1.out.len; have h4 := HI1.out.small; unfold Im.went; omega)
          have HRF := hide (fun W (hr : RI W p V U D E c M) => rcommit_any hr HGM.out.gd)
          have HGN := hide HGM.out.commit
          have HLR := hide HR1.out.lt
          go_wp2_with fail
          refine (commit_any HI1.out).mono ?_
          rintro e w2 ⟨v2, rfl, ho, hi, hk⟩
          obtain ⟨A2, cc2, rfl, _, hv2⟩ := own_read ho
          have HO2 := hide ho
          have HI2 := hide hi
          have HR2 := hide (HA2.out _ _ _ D E HR1.out HSP.out _ HX4.out hk)
          have HK2 := hide (HA4.out _ _ HK1.out _ HX4.out hk)
          clear ho hi hk hv2
          go_wp2_with fail
          refine (HRF.out _ HR2.out).mono ?_
          rintro e w3 ⟨v3, rfl, ho, hi, hk⟩
          obtain ⟨A3, cc3, rfl, _, hv3⟩ := own_read ho
          have HV3 := hide (hv3 [] (by simp))
          have HO3 := hide (own_keep HO2.out hk (fun i hi hm => by have h1 := (own_blk HO2.out i hm).1; have h2 := HLR.out i (by simp at hi ⊢; exact .inr hi); omega))
          obtain ⟨B2, cb2, hB2, _, hvB⟩ := own_read HO3.out
          cases hB2
          have HV2 := hide (hvB [] (by simp))
          have HR3 := hide hi
          have HI3 := hide (HA1.out _ _ _ D E HI2.out HSP.out _ (fun y hy => by simp only [List.mem_cons, List.not_mem_nil, or_false] at hy ⊢; rcases hy with rfl | rfl | rfl | rfl <;> simp) hk)
          have HK3 := hide (HA3.out _ _ D E HK2.out HSP.out _ (fun y hy => by simp only [List.mem_cons, List.not_mem_nil, or_false] at hy ⊢; rcases hy with rfl | rfl | rfl | rfl <;> simp) hk)
          clear ho hi hk hv3 hvB
          obtain ⟨xs, hxs⟩ : ∃ xs, M.went = xs := ⟨_, rfl⟩
          rw [hxs] at HV2 HV3 HXL
          simp only [hxs]
          have hxl : xs.length ≤ 64 := HXL.out
          clear hxs HO2 HO3
          go_wp2_with fail
          refine (pg.ints_any A2 A3 xs.length xs.length cc2 cc3 xs xs _ rfl rfl HV2.out HV3.out (by omega)).mono ?_
          rintro e w4 ⟨rfl, hk4⟩
          rw [show decide (xs = xs) = true from decide_eq_true rfl]
          have HI4 := hide (HI3.out.keep hk4)
          have HR4 := hide (HR3.out.keep hk4)
          have HK4 := hide (HK3.out.trans hk4 (by simp))
          clear hk4
          go_wp2
          go_meet
          exact ⟨_, D, E, HI4, HR4, HGN, HSP, HK4⟩
        have e3 : (kd == 3) = false := beq_eq_false_iff_ne.2 h3
        by_cases h4 : kd = 4
        · subst h4
          have HXL := hide (show M.forgot.length ≤ 64 from by have h1 := gone_le M true (likes 0 (-1) M.b.l.length); rw [likes_length] at h1; have h4 := HI1.out.small; unfold Im.forgot; omega)
          have HRF := hide (fun W (hr : RI W p V U D E c M) => rforget_any hr)
          have HGN := hide HGM.out.forget
          have HLR := hide HR1.out.lt
          go_wp2_with fail
          refine (forget_any HI1.out).mono ?_
          rintro e w2 ⟨v2, rfl, ho, hi, hk⟩
          obtain ⟨A2, cc2, rfl, _, hv2⟩ := own_read ho
          have HO2 := hide ho
          have HI2 := hide hi
          have HR2 := hide (HA2.out _ _ _ D E HR1.out HSP.out _ HX2.out hk)
          have HK2 := hide (HA4.out _ _ HK1.out _ HX2.out hk)
          clear ho hi hk hv2
          go_wp2_with fail
          refine (HRF.out _ HR2.out).mono ?_
          rintro e w3 ⟨v3, rfl, ho, hi, hk⟩
          obtain ⟨A3, cc3, rfl, _, hv3⟩ := own_read ho
          have HV3 := hide (hv3 [] (by simp))
          have HO3 := hide (own_keep HO2.out hk (fun i hi hm => by have h1 := (own_blk HO2.out i hm).1; have h2 := HLR.out i (by simp at hi ⊢; exact .inr hi); omega))
          obtain ⟨B2, cb2, hB2, _, hvB⟩ := own_read HO3.out
          cases hB2
          have HV2 := hide (hvB [] (by simp))
          have HR3 := hide hi
          have HI3 := hide (HA1.out _ _ _ D E HI2.out HSP.out _ (fun y hy => by simp only [List.mem_cons, List.not_mem_nil, or_false] at hy ⊢; rcases hy with rfl | rfl | rfl | rfl <;> simp) hk)
          have HK3 := hide (HA3.out _ _ D E HK2.out HSP.out _ (fun y hy => by simp only [List.mem_cons, List.not_mem_nil, or_false] at hy ⊢; rcases hy with rfl | rfl | rfl | rfl <;> simp) hk)
          clear ho hi hk hv3 hvB
          obtain ⟨xs, hxs⟩ : ∃ xs, M.forgot = xs := ⟨_, rfl⟩
          rw [hxs] at HV2 HV3 HXL
          simp only [hxs]
          have hxl : xs.length ≤ 64 := HXL.out
          clear hxs HO2 HO3
          go_wp2_with fail
          refine (pg.ints_any A2 A3 xs.length xs.length cc2 cc3 xs xs _ rfl rfl HV2.out HV3.out (by omega)).mono ?_
          rintro e w4 ⟨rfl, hk4⟩
          rw [show decide (xs = xs) = true from decide_eq_true rfl]
          have HI4 := hide (HI3.out.keep hk4)
          have HR4 := hide (HR3.out.keep hk4)
          have HK4 := hide (HK3.out.trans hk4 (by simp))
          clear hk4
          go_wp2
          go_meet
          exact ⟨_, D, E, HI4, HR4, HGN, HSP, HK4⟩
        have e4 : (kd == 4) = false := beq_eq_false_iff_ne.2 h4
        by_cases h7 : kd = 7
        · subst h7
          have HVD := hide (show ∀ W, Kept [] w W → Vals W [] LA (l.map I) from HVX.out)
          obtain ⟨M', Q, hR⟩ : ∃ M' Q, mvR M bb nn aa = (M', Q) := ⟨_, _, rfl⟩
          have HGN := hide (HGM.out.mv bb nn aa)
          have HPF := hide (fun W (hi : IAt W X M) (k : Kept [] wa W) => imove_all hi bb nn aa)
          have HRF := hide (fun W (hr : RI W p V U D E c M) (hv : Vals W [] LA (l.map I)) => rmove_all hr bb nn aa)
          rw [hR] at HGN
          simp only [hR] at HPF HRF
          obtain ⟨wd, hwd⟩ : ∃ wd, wa.drew = wd := ⟨_, rfl⟩
          have kd0 : Kept [] wa wd := by rw [← hwd]; exact (Kept.refl [] wa).drew
          have HId := hide (HI1.out.keep kd0)
          have HRd := hide (HR1.out.keep kd0)
          have HKd := hide (HK1.out.trans kd0 (by simp))
          have HKD := hide kd0
          have HVd := hide (HVa.out.kept kd0 (by simp))
          have HBd := hide (HBX.out wd [] (by simp) kd0)
          have HCd := hide (show True ∧ wd.cell? ⟨G, 1, none⟩ = some (.int .i64 bb) ∧ wd.cell? ⟨G, 2, none⟩ = some (.int .i64 nn) ∧ wd.cell? ⟨G, 3, none⟩ = some (.int .i64 aa) from ⟨trivial, HBd.out.cell 1, HBd.out.cell 2, HBd.out.cell 3⟩)
          have e2' : (Q != Q) = false := by simp
          clear hR kd0 t0 t1 t2 t3 t4 t5 HVa
          go_wp2
          refine wp_region_noPanic ?_
          refine wp_region_held_drew (S := fun W => True ∧ W.cell? ⟨G, 1, none⟩ = some (.int .i64 bb) ∧ W.cell? ⟨G, 2, none⟩ = some (.int .i64 nn) ∧ W.cell? ⟨G, 3, none⟩ = some (.int .i64 aa)) (by kernel_rfl) (by (try rw [hwd]); exact HCd.out) (fun hHeld => ?_)
          refine wpAnyH_take (i := 0) (oi := ⟨some 164, _, _, _, _, _⟩) (v := ?v1) rfl (by kernel_rfl) (by kernel_rfl) (by kernel_rfl) (fun _ _ _ h => h) (Or.inl ⟨by rfl, ?hy1⟩) (by assumption) ?rest1
          case hy1 => (intro W hSw; (try dsimp only at hSw); go_simp; try with_reducible rfl)
          try simp only [Act.put, List.setIfInBounds_toArray, List.set_cons_zero, List.set_cons_succ]
          refine wpAnyH_take (i := 1) (oi := ⟨some 165, _, _, _, _, _⟩) (v := ?v2) rfl (by kernel_rfl) (by kernel_rfl) (by kernel_rfl) (fun _ _ _ h => h) (Or.inl ⟨by rfl, ?hy2⟩) (by assumption) ?rest2
          case hy2 => (intro W hSw; (try dsimp only at hSw); go_simp; try with_reducible rfl)
          try simp only [Act.put, List.setIfInBounds_toArray, List.set_cons_zero, List.set_cons_succ]
          refine wpAnyH_take (i := 2) (oi := ⟨some 166, _, _, _, _, _⟩) (v := ?v3) rfl (by kernel_rfl) (by kernel_rfl) (by kernel_rfl) (fun _ _ _ h => h) (Or.inl ⟨by rfl, ?hy3⟩) (by assumption) ?rest3
          case hy3 => (intro W hSw; (try dsimp only at hSw); go_simp; try with_reducible rfl)
          try simp only [Act.put, List.setIfInBounds_toArray, List.set_cons_zero, List.set_cons_succ]
          refine wpAnyH_take (i := 3) (oi := ⟨some 167, _, _, _, _, _⟩) (v := ?v4) rfl (by kernel_rfl) (by kernel_rfl) (by kernel_rfl) (fun _ _ _ h => h) (Or.inl ⟨by rfl, ?hy4⟩) (by assumption) ?rest4
          case hy4 => (intro W hSw; (try dsimp only at hSw); go_simp; try with_reducible rfl)
          try simp only [Act.put, List.setIfInBounds_toArray, List.set_cons_zero, List.set_cons_succ]
          refine wpAnyH_take (i := 4) (oi := ⟨some 168, _, _, _, _, _⟩) (v := ?v5) rfl (by kernel_rfl) (by kernel_rfl) (by kernel_rfl) (fun _ _ _ h => h) (Or.inl ⟨by rfl, ?hy5⟩) (by assumption) ?rest5
          case hy5 => (intro W hSw; (try dsimp only at hSw); go_simp; try with_reducible rfl)
          try simp only [Act.put, List.setIfInBounds_toArray, List.set_cons_zero, List.set_cons_succ]
          refine wpAnyH_take (i := 5) (oi := ⟨some 169, _, _, _, _, _⟩) (v := ?v6) rfl (by kernel_rfl) (by kernel_rfl) (by kernel_rfl) (fun _ _ _ h => h) (Or.inl ⟨by rfl, ?hy6⟩) (by assumption) ?rest6
          case hy6 => (intro W hSw; (try dsimp only at hSw); go_simp; try with_reducible rfl)
          try simp only [Act.put, List.setIfInBounds_toArray, List.set_cons_zero, List.set_cons_succ]
          refine wpAnyH_take (i := 6) (oi := ⟨some 170, _, _, _, _, _⟩) (v := ?v7) rfl (by kernel_rfl) (by kernel_rfl) (by kernel_rfl) (fun _ _ _ h => h) (Or.inl ⟨by rfl, ?hy7⟩) (by assumption) ?rest7
          case hy7 => (intro W hSw; (try dsimp only at hSw); go_simp; try with_reducible rfl)
          try simp only [Act.put, List.setIfInBounds_toArray, List.set_cons_zero, List.set_cons_succ]
          refine wpAnyH_take (i := 8) (oi := ⟨some 172, _, _, _, _, _⟩) (v := ?v8) rfl (by kernel_rfl) (by kernel_rfl) (by kernel_rfl) (fun _ _ _ h => h) (Or.inl ⟨by rfl, ?hy8⟩) (by assumption) ?rest8
          case hy8 => (intro W hSw; (try dsimp only at hSw); go_simp; try with_reducible rfl)
          try simp only [Act.put, List.setIfInBounds_toArray, List.set_cons_zero, List.set_cons_succ]
          refine wpAnyH_take (i := 9) (oi := ⟨some 173, _, _, _, _, _⟩) (v := ?v9) rfl (by kernel_rfl) (by kernel_rfl) (by kernel_rfl) (fun _ _ _ h => h) (Or.inl ⟨by rfl, ?hy9⟩) (by assumption) ?rest9
          case hy9 => (intro W hSw; (try dsimp only at hSw); go_simp; try with_reducible rfl)
          try simp only [Act.put, List.setIfInBounds_toArray, List.set_cons_zero, List.set_cons_succ]
          refine wpAnyH_take (i := 10) (oi := ⟨some 174, _, _, _, _, _⟩) (v := ?v10) rfl (by kernel_rfl) (by kernel_rfl) (by kernel_rfl) (fun _ _ _ h => h) (Or.inl ⟨by rfl, ?hy10⟩) (by assumption) ?rest10
          case hy10 => (intro W hSw; (try dsimp only at hSw); go_simp; try with_reducible rfl)
          try simp only [Act.put, List.setIfInBounds_toArray, List.set_cons_zero, List.set_cons_succ]
          refine wpAnyH_take (i := 11) (oi := ⟨some 175, _, _, _, _, _⟩) (v := ?v11) rfl (by kernel_rfl) (by kernel_rfl) (by kernel_rfl) (fun _ _ _ h => h) (Or.inl ⟨by rfl, ?hy11⟩) (by assumption) ?rest11
          case hy11 => (intro W hSw; (try dsimp only at hSw); go_simp; try with_reducible rfl)
          try simp only [Act.put, List.setIfInBounds_toArray, List.set_cons_zero, List.set_cons_succ]
          refine wpAnyH_take (i := 12) (oi := ⟨some 176, _, _, _, _, _⟩) (v := ?v12) rfl (by kernel_rfl) (by kernel_rfl) (by kernel_rfl) (fun _ _ _ h => h) (Or.inl ⟨by rfl, ?hy12⟩) (by assumption) ?rest12
          case hy12 => (intro W hSw; (try dsimp only at hSw); go_simp; try with_reducible rfl)
          try simp only [Act.put, List.setIfInBounds_toArray, List.set_cons_zero, List.set_cons_succ]
          refine wpAnyH_take (i := 13) (oi := ⟨some 177, _, _, _, _, _⟩) (v := ?v13) rfl (by kernel_rfl) (by kernel_rfl) (by kernel_rfl) (fun _ _ _ h => h) (Or.inl ⟨by rfl, ?hy13⟩) (by assumption) ?rest13
          case hy13 => (intro W hSw; (try dsimp only at hSw); go_simp; try with_reducible rfl)
          try simp only [Act.put, List.setIfInBounds_toArray, List.set_cons_zero, List.set_cons_succ]
          refine wpAnyH_take (i := 14) (oi := ⟨some 178, _, _, _, _, _⟩) (v := ?v14) rfl (by kernel_rfl) (by kernel_rfl) (by kernel_rfl) (fun _ _ _ h => h) (Or.inl ⟨by rfl, ?hy14⟩) (by assumption) ?rest14
          case hy14 => (intro W hSw; (try dsimp only at hSw); go_simp; try with_reducible rfl)
          try simp only [Act.put, List.setIfInBounds_toArray, List.set_cons_zero, List.set_cons_succ]
          refine held_one (i := 7) (o := ⟨some 171, _, _, _, _, _⟩) rfl (by kernel_rfl) (by rfl) (fun K hK => ?_)
          (try rw [hwd])
          go_simp
          refine (HPF.out _ HId.out HKD.out).mono ?_
          rintro e w2 ⟨rfl, hi, hk⟩
          have HI2 := hide hi
          have HR2 := hide (HA2.out _ _ _ D E HRd.out HSP.out _ HX4.out hk)
          have HK2 := hide (HA4.out _ _ HKd.out _ HX4.out hk)
          have HV2 := hide (show Vals w2 [] LA (l.map I) from HVD.out w2 HK2.out)
          have HBY := hide (HBX.out w2 _ (fun y hy => .inl (HX4.out y hy)) ((HKD.out.mono (S' := [X.V, X.D, X.U, X.E]) (by simp)).trans hk (fun y hy => .inl hy)))
          clear hi hk
          refine hK.out _ _ (by exact ⟨trivial, HBY.out.cell 1, HBY.out.cell 2, HBY.out.cell 3⟩) (fun hHeld => ?_)
          clear hK K
          try simp only [Act.put, List.setIfInBounds_toArray, List.set_cons_zero, List.set_cons_succ]
          refine held_one (i := 15) (o := ⟨some 179, _, _, _, _, _⟩) rfl (by kernel_rfl) (by rfl) (fun K hK => ?_)
          go_simp
          refine (HRF.out _ HR2.out HV2.out).mono ?_
          rintro e w3 ⟨rfl, hi, hk⟩
          have HR3 := hide hi
          have HI3 := hide (HA1.out _ _ _ D E HI2.out HSP.out _ (fun y hy => by simp only [List.mem_cons, List.not_mem_nil, or_false] at hy ⊢; rcases hy with rfl | rfl | rfl | rfl <;> simp) hk)
          have HK3 := hide (HA3.out _ _ D E HK2.out HSP.out _ (fun y hy => by simp only [List.mem_cons, List.not_mem_nil, or_false] at hy ⊢; rcases hy with rfl | rfl | rfl | rfl <;> simp) hk)
          have HBZ := hide (hk.blk HBY.out (fun hm => by have h1 := HGR.out G (by simp only [List.mem_cons, List.not_mem_nil, or_false] at hm ⊢; exact .inr hm); omega))
          clear hi hk
          refine hK.out _ _ (by exact ⟨trivial, HBZ.out.cell 1, HBZ.out.cell 2, HBZ.out.cell 3⟩) (fun hHeld => ?_)
          clear hK K
          try simp only [Act.put, List.setIfInBounds_toArray, List.set_cons_zero, List.set_cons_succ]
          refine wpAnyH_take (i := 16) (oi := ⟨some 180, _, _, _, _, _⟩) (v := ?v15) rfl (by kernel_rfl) (by kernel_rfl) (by kernel_rfl) (fun _ _ _ h => h) (Or.inl ⟨by rfl, ?hy15⟩) (by assumption) ?rest15
          case hy15 => (intro W hSw; (try dsimp only at hSw); go_simp; try with_reducible rfl)
          try simp only [Act.put, List.setIfInBounds_toArray, List.set_cons_zero, List.set_cons_succ]
          refine wpAnyH_done (by kernel_rfl) ?_ _
          refine NoPanic.normal ?_
          go_wp2
          go_meet
          exact ⟨M', D, E, HI3, HR3, HGN, HSP, HK3⟩
        have e7 : (kd == 7) = false := beq_eq_false_iff_ne.2 h7
        by_cases h8 : kd = 8
        · subst h8
          have HLR := hide HR1.out.lt
          have HDL := hide (show M.o.d.length = M.b.d.length from HR1.out.dlen)
          have HGN := hide (show GM ⟨⟨M.b.l, List.replicate M.b.d.length false⟩, ⟨M.o.l, List.replicate M.o.d.length false⟩⟩ from HGM.out)
          go_wp2_with fail
          refine (clean_any HI1.out).mono ?_
          rintro e w2 ⟨rfl, hi, hk⟩
          have HI2 := hide hi
          have HR2 := hide (HA2.out _ _ _ D E HR1.out HSP.out _ HXD.out hk)
          have HK2 := hide (HA4.out _ _ HK1.out _ HXD.out hk)
          clear hi hk
          go_wp2_with fail
          refine (rclean_any HR2.out).mono ?_
          rintro e w3 ⟨rfl, D2, E2, hi, hk, hD2, hE2⟩
          have HR3 := hide hi
          have HS3 := hide (show ∀ y ∈ [p, V, U, D2, E2], z ≤ y from fun y hy => by have h1 := HSP.out p (by simp); have h2 := HSP.out V (by simp); have h3 := HSP.out U (by simp); have h4 := HR2.out.lt p (by simp); simp only [List.mem_cons, List.not_mem_nil, or_false] at hy; rcases hy with rfl | rfl | rfl | rfl | rfl <;> omega)
          have HI3 := hide (HA1.out _ _ _ D E HI2.out HSP.out _ (fun y hy => by simp only [List.mem_cons, List.not_mem_nil, or_false] at hy; subst hy; simp) hk)
          have HK3 := hide (HA3.out _ _ D E HK2.out HSP.out _ (fun y hy => by simp only [List.mem_cons, List.not_mem_nil, or_false] at hy; subst hy; simp) hk)
          clear hi hk hD2 hE2
          go_wp2
          go_meet
          exact ⟨_, D2, E2, HI3, HR3, HGN, HS3, HK3⟩
        have e8 : (kd == 8) = false := beq_eq_false_iff_ne.2 h8
        by_cases h9 : kd = 9
        · subst h9
          have HVD := hide (show ∀ W, Kept [] w W → Vals W [] LA (l.map I) from HVX.out)
          obtain ⟨M', Q, hR⟩ : ∃ M' Q, ldR M ov bb l = (M', Q) := ⟨_, _, rfl⟩
          have HGN := hide (HGM.out.ld ov bb l)
          have HPF := hide (fun W (hi : IAt W X M) (k : Kept [] wa W) => iload_all hi ov bb LA lc l HLC.out (HVa.out.kept k (by simp)))
          have HRF := hide (fun W (hr : RI W p V U D E c M) (hv : Vals W [] LA (l.map I)) => rload_all hr ov bb LA lc l HLC.out hv)
          rw [hR] at HGN
          simp only [hR] at HPF HRF
          obtain ⟨wd, hwd⟩ : ∃ wd, wa.drew = wd := ⟨_, rfl⟩
          have kd0 : Kept [] wa wd := by rw [← hwd]; exact (Kept.refl [] wa).drew
          have HId := hide (HI1.out.keep kd0)
          have HRd := hide (HR1.out.keep kd0)
          have HKd := hide (HK1.out.trans kd0 (by simp))
          have HKD := hide kd0
          have HVd := hide (HVa.out.kept kd0 (by simp))
          have HBd := hide (HBX.out wd [] (by simp) kd0)
          have HCd := hide (show True ∧ wd.cell? ⟨G, 4, none⟩ = some (.bool ov) ∧ wd.cell? ⟨G, 1, none⟩ = some (.int .i64 bb) ∧ wd.cell? ⟨G, 5, none⟩ = some (.slice LA l.length lc) from ⟨trivial, HBd.out.cell 4, HBd.out.cell 1, HBd.out.cell 5⟩)
          have e2' : (Q != Q) = false := by simp
          clear hR kd0 t0 t1 t2 t3 t4 t5 HVa
          go_wp2
          refine wp_region_noPanic ?_
          refine wp_region_held_drew (S := fun W => True ∧ W.cell? ⟨G, 4, none⟩ = some (.bool ov) ∧ W.cell? ⟨G, 1, none⟩ = some (.int .i64 bb) ∧ W.cell? ⟨G, 5, none⟩ = some (.slice LA l.length lc)) (by kernel_rfl) (by (try rw [hwd]); exact HCd.out) (fun hHeld => ?_)
          refine wpAnyH_take (i := 0) (oi := ⟨some 189, _, _, _, _, _⟩) (v := ?v16) rfl (by kernel_rfl) (by kernel_rfl) (by kernel_rfl) (fun _ _ _ h => h) (Or.inl ⟨by rfl, ?hy16⟩) (by assumption) ?rest16
          case hy16 => (intro W hSw; (try dsimp only at hSw); go_simp; try with_reducible rfl)
          try simp only [Act.put, List.setIfInBounds_toArray, List.set_cons_zero, List.set_cons_succ]
          refine wpAnyH_take (i := 1) (oi := ⟨some 190, _, _, _, _, _⟩) (v := ?v17) rfl (by kernel_rfl) (by kernel_rfl) (by kernel_rfl) (fun _ _ _ h => h) (Or.inl ⟨by rfl, ?hy17⟩) (by assumption) ?rest17
          case hy17 => (intro W hSw; (try dsimp only at hSw); go_simp; try with_reducible rfl)
          try simp only [Act.put, List.setIfInBounds_toArray, List.set_cons_zero, List.set_cons_succ]
          refine wpAnyH_take (i := 2) (oi := ⟨some 191, _, _, _, _, _⟩) (v := ?v18) rfl (by kernel_rfl) (by kernel_rfl) (by kernel_rfl) (fun _ _ _ h => h) (Or.inl ⟨by rfl, ?hy18⟩) (by assumption) ?rest18
          case hy18 => (intro W hSw; (try dsimp only at hSw); go_simp; try with_reducible rfl)
          try simp only [Act.put, List.setIfInBounds_toArray, List.set_cons_zero, List.set_cons_succ]
          refine wpAnyH_take (i := 3) (oi := ⟨some 192, _, _, _, _, _⟩) (v := ?v19) rfl (by kernel_rfl) (by kernel_rfl) (by kernel_rfl) (fun _ _ _ h => h) (Or.inl ⟨by rfl, ?hy19⟩) (by assumption) ?rest19
          case hy19 => (intro W hSw; (try dsimp only at hSw); go_simp; try with_reducible rfl)
          try simp only [Act.put, List.setIfInBounds_toArray, List.set_cons_zero, List.set_cons_succ]
          refine wpAnyH_take (i := 4) (oi := ⟨some 193, _, _, _, _, _⟩) (v := ?v20) rfl (by kernel_rfl) (by kernel_rfl) (by kernel_rfl) (fun _ _ _ h => h) (Or.inl ⟨by rfl, ?hy20⟩) (by assumption) ?rest20
          case hy20 => (intro W hSw; (try dsimp only at hSw); go_simp; try with_reducible rfl)
          try simp only [Act.put, List.setIfInBounds_toArray, List.set_cons_zero, List.set_cons_succ]
          refine wpAnyH_take (i := 5) (oi := ⟨some 194, _, _, _, _, _⟩) (v := ?v21) rfl (by kernel_rfl) (by kernel_rfl) (by kernel_rfl) (fun _ _ _ h => h) (Or.inl ⟨by rfl, ?hy21⟩) (by assumption) ?rest21
          case hy21 => (intro W hSw; (try dsimp only at hSw); go_simp; try with_reducible rfl)
          try simp only [Act.put, List.setIfInBounds_toArray, List.set_cons_zero, List.set_cons_succ]
          refine wpAnyH_take (i := 6) (oi := ⟨some 195, _, _, _, _, _⟩) (v := ?v22) rfl (by kernel_rfl) (by kernel_rfl) (by kernel_rfl) (fun _ _ _ h => h) (Or.inl ⟨by rfl, ?hy22⟩) (by assumption) ?rest22
          case hy22 => (intro W hSw; (try dsimp only at hSw); go_simp; try with_reducible rfl)
          try simp only [Act.put, List.setIfInBounds_toArray, List.set_cons_zero, List.set_cons_succ]
          refine wpAnyH_take (i := 8) (oi := ⟨some 197, _, _, _, _, _⟩) (v := ?v23) rfl (by kernel_rfl) (by kernel_rfl) (by kernel_rfl) (fun _ _ _ h => h) (Or.inl ⟨by rfl, ?hy23⟩) (by assumption) ?rest23
          case hy23 => (intro W hSw; (try dsimp only at hSw); go_simp; try with_reducible rfl)
          try simp only [Act.put, List.setIfInBounds_toArray, List.set_cons_zero, List.set_cons_succ]
          refine wpAnyH_take (i := 9) (oi := ⟨some 198, _, _, _, _, _⟩) (v := ?v24) rfl (by kernel_rfl) (by kernel_rfl) (by kernel_rfl) (fun _ _ _ h => h) (Or.inl ⟨by rfl, ?hy24⟩) (by assumption) ?rest24
          case hy24 => (intro W hSw; (try dsimp only at hSw); go_simp; try with_reducible rfl)
          try simp only [Act.put, List.setIfInBounds_toArray, List.set_cons_zero, List.set_cons_succ]
          refine wpAnyH_take (i := 10) (oi := ⟨some 199, _, _, _, _, _⟩) (v := ?v25) rfl (by kernel_rfl) (by kernel_rfl) (by kernel_rfl) (fun _ _ _ h => h) (Or.inl ⟨by rfl, ?hy25⟩) (by assumption) ?rest25
          case hy25 => (intro W hSw; (try dsimp only at hSw); go_simp; try with_reducible rfl)
          try simp only [Act.put, List.setIfInBounds_toArray, List.set_cons_zero, List.set_cons_succ]
          refine wpAnyH_take (i := 11) (oi := ⟨some 200, _, _, _, _, _⟩) (v := ?v26) rfl (by kernel_rfl) (by kernel_rfl) (by kernel_rfl) (fun _ _ _ h => h) (Or.inl ⟨by rfl, ?hy26⟩) (by assumption) ?rest26
          case hy26 => (intro W hSw; (try dsimp only at hSw); go_simp; try with_reducible rfl)
          try simp only [Act.put, List.setIfInBounds_toArray, List.set_cons_zero, List.set_cons_succ]
          refine wpAnyH_take (i := 12) (oi := ⟨some 201, _, _, _, _, _⟩) (v := ?v27) rfl (by kernel_rfl) (by kernel_rfl) (by kernel_rfl) (fun _ _ _ h => h) (Or.inl ⟨by rfl, ?hy27⟩) (by assumption) ?rest27
          case hy27 => (intro W hSw; (try dsimp only at hSw); go_simp; try with_reducible rfl)
          try simp only [Act.put, List.setIfInBounds_toArray, List.set_cons_zero, List.set_cons_succ]
          refine wpAnyH_take (i := 13) (oi := ⟨some 202, _, _, _, _, _⟩) (v := ?v28) rfl (by kernel_rfl) (by kernel_rfl) (by kernel_rfl) (fun _ _ _ h => h) (Or.inl ⟨by rfl, ?hy28⟩) (by assumption) ?rest28
          case hy28 => (intro W hSw; (try dsimp only at hSw); go_simp; try with_reducible rfl)
          try simp only [Act.put, List.setIfInBounds_toArray, List.set_cons_zero, List.set_cons_succ]
          refine wpAnyH_take (i := 14) (oi := ⟨some 203, _, _, _, _, _⟩) (v := ?v29) rfl (by kernel_rfl) (by kernel_rfl) (by kernel_rfl) (fun _ _ _ h => h) (Or.inl ⟨by rfl, ?hy29⟩) (by assumption) ?rest29
          case hy29 => (intro W hSw; (try dsimp only at hSw); go_simp; try with_reducible rfl)
          try simp only [Act.put, List.setIfInBounds_toArray, List.set_cons_zero, List.set_cons_succ]
          refine held_one (i := 7) (o := ⟨some 196, _, _, _, _, _⟩) rfl (by kernel_rfl) (by rfl) (fun K hK => ?_)
          (try rw [hwd])
          go_simp
          refine (HPF.out _ HId.out HKD.out).mono ?_
          rintro e w2 ⟨rfl, hi, hk⟩
          have HI2 := hide hi
          have HR2 := hide (HA2.out _ _ _ D E HRd.out HSP.out _ HX4.out hk)
          have HK2 := hide (HA4.out _ _ HKd.out _ HX4.out hk)
          have HV2 := hide (show Vals w2 [] LA (l.map I) from HVD.out w2 HK2.out)
          have HBY := hide (HBX.out w2 _ (fun y hy => .inl (HX4.out y hy)) ((HKD.out.mono (S' := [X.V, X.D, X.U, X.E]) (by simp)).trans hk (fun y hy => .inl hy)))
          clear hi hk
          refine hK.out _ _ (by exact ⟨trivial, HBY.out.cell 4, HBY.out.cell 1, HBY.out.cell 5⟩) (fun hHeld => ?_)
          clear hK K
          try simp only [Act.put, List.setIfInBounds_toArray, List.set_cons_zero, List.set_cons_succ]
          refine held_one (i := 15) (o := ⟨some 204, _, _, _, _, _⟩) rfl (by kernel_rfl) (by rfl) (fun K hK => ?_)
          go_simp
          refine (HRF.out _ HR2.out HV2.out).mono ?_
          rintro e w3 ⟨rfl, hi, hk⟩
          have HR3 := hide hi
          have HI3 := hide (HA1.out _ _ _ D E HI2.out HSP.out _ (fun y hy => by simp only [List.mem_cons, List.not_mem_nil, or_false] at hy ⊢; rcases hy with rfl | rfl | rfl | rfl <;> simp) hk)
          have HK3 := hide (HA3.out _ _ D E HK2.out HSP.out _ (fun y hy => by simp only [List.mem_cons, List.not_mem_nil, or_false] at hy ⊢; rcases hy with rfl | rfl | rfl | rfl <;> simp) hk)
          have HBZ := hide (hk.blk HBY.out (fun hm => by have h1 := HGR.out G (by simp only [List.mem_cons, List.not_mem_nil, or_false] at hm ⊢; exact .inr hm); omega))
          clear hi hk
          refine hK.out _ _ (by exact ⟨trivial, HBZ.out.cell 4, HBZ.out.cell 1, HBZ.out.cell 5⟩) (fun hHeld => ?_)
          clear hK K
          try simp only [Act.put, List.setIfInBounds_toArray, List.set_cons_zero, List.set_cons_succ]
          refine wpAnyH_take (i := 16) (oi := ⟨some 205, _, _, _, _, _⟩) (v := ?v30) rfl (by kernel_rfl) (by kernel_rfl) (by kernel_rfl) (fun _ _ _ h => h) (Or.inl ⟨by rfl, ?hy30⟩) (by assumption) ?rest30
          case hy30 => (intro W hSw; (try dsimp only at hSw); go_simp; try with_reducible rfl)
          try simp only [Act.put, List.setIfInBounds_toArray, List.set_cons_zero, List.set_cons_succ]
          refine wpAnyH_done (by kernel_rfl) ?_ _
          refine NoPanic.normal ?_
          go_wp2
          go_meet
          exact ⟨M', D, E, HI3, HR3, HGN, HSP, HK3⟩
        have e9 : (kd == 9) = false := beq_eq_false_iff_ne.2 h9
        go_wp2
        go_meet
        exact ⟨M, D, E, HI1, HR1, HGM, HSP, HK1⟩
      case rest => as_aux_lemma =>
        obtain ⟨M2, D2, E2, HI2, HR2, HG2, HS2, HK2⟩ := hcut
        clear HI1 HR1 HK1 HVa HBX HGM HSP HGR HGX GA t0 t1 t2 t3 t4 t5
        go_wp2_with fail
        refine (same_any HI2.out HR2.out HG2.out.gd).mono ?_
        rintro e w9 ⟨rfl, hk9⟩
        have HI3 := hide (HI2.out.keep hk9)
        have HR3 := hide (HR2.out.keep hk9)
        have HK3 := hide (HK2.out.trans hk9 (by simp))
        clear hk9
        go_wp2
        go_roundw
        case rel => exact ⟨j + 1, M2, D2, E2, by omega, by go_num, HI3, HR3, HG2, HS2, HK3⟩
        case measure => simp [intOf]; omega
    · obtain rfl : j = len1 := by omega
      go_wp2_with fail
      refine (awake_any _).mono ?_
      rintro e w9 ⟨rfl, hk9⟩
      have HK9 := hide ((HKR.out.trans hk9 (by simp)).below (by simp))
      clear hk9
      go_wp2
      go_ret
      exact ⟨rfl, HK9.out⟩

/-! ### the row's step, as the guide's skeleton has it -/
set_option maxRecDepth 100000 in
theorem lifted (os : Os) (started : os.Started) (H : Type) (enc : TypeId × Value → H) :
    ReturnsInHanded {} Try.checked os 3 .any (Rows.imagePlaysSpec.pre6 enc Try.prog Try.f3 Rows.imagePlaysRow.domain false) (Rows.imagePlaysSpec.post enc Try.prog Try.f3 false true false false) := by
  refine returnsInHanded_of_change (C := Try.checked) own started (by kernel_rfl) Try.func3
    (ChangeSpec.witness6 (enc := enc) (C := Try.checked) false ⟨#[], #[.int .i64 0, .slice none 0 0], []⟩ 8 (by kernel_rfl) (by kernel_rfl) (by kernel_rfl) (by kernel_rfl)) ?_
  intro W base args ds gs before hval0 hW hcnd _
  have hval : ∀ (j : Nat) t v, Try.f3.params[j]? = some t → args[j]? = some v → Value.okWide Try.prog W .any base t v := hval0
  have hW' := hW
  obtain ⟨p, q, hA0, hV, rfl, hfz, hnd⟩ := hW
  have hA : DataW.TrodAll enc Try.prog W 0 (fun _ => true) true Try.f3.params.toList args.toList ds p := hA0
  rw [Try.params3] at hA hval
  obtain ⟨v0, vs0, d0, ds0, p0, q0, hargs, rfl, rfl, h0, r0⟩ := trodAll_cons hA
  obtain ⟨v1, vs1, d1, ds1, p1, q1, rfl, rfl, rfl, h1, r1⟩ := trodAll_cons r0
  obtain ⟨rfl, rfl, rfl⟩ := trodAll_nil r1
  obtain rfl : args = #[v0, v1] := by cases args; simp_all
  obtain ⟨rfl, rfl⟩ := trodVars_none hV
  obtain ⟨a0, rfl, rfl, rfl, w0⟩ := open_int Try.underlying3 (hval 0 3 v0 rfl rfl) h0
  obtain ⟨a1, len1, cap1, rfl⟩ := okWide_slice Try.underlying22 (hval 1 22 v1 rfl rfl)
  have k1 := h1
  have lt1 : ∀ x ∈ p1, x.block < W.heap.size := by obtain ⟨m, hm⟩ := k1; exact DataW.trod_lt m _ _ _ hm
  have hacts : ∀ i, i < len1 → ∃ ad, a1 = some ad ∧ ActAt W (ad.add (i * 6)) := by
    obtain ⟨fuel, hf⟩ := h1
    exact acts_of hf
  clear hA0 hval0
  refine (walk a0 a1 len1 cap1 W w0 hacts).mono fun e W' ⟨he, bel⟩ => ?_
  subst he
  exact ⟨_, rfl, _, _, _, [], _, [], hW', trodAll_mk1 (shut_bool Try.underlying4 _), (trodAll_cons_mk (shut_int Try.underlying3 w0) (trodAll_cons_mk (Below.trod laidOut (by kernel_rfl) (of_decide_eq_true (by kernel_rfl)) k1 bel lt1) trodAll_mk0)), rfl, bel.frame _, fun h => by cases h⟩

theorem over : Rows.imagePlaysRow.holds Try.pinned (OpenSpec.ofChange Rows.imagePlaysSpec) :=
  OpenClaim.holds_of_wide 3 Try.f3 rfl rfl rfl rfl rfl rfl rfl ⟨rfl, rfl, rfl, rfl, rfl⟩ rfl rfl rfl rfl rfl (by kernel_rfl) Try.func3 (by kernel_rfl)
    (of_decide_eq_true (by kernel_rfl)) (by unfold Func.isWrapper; first | (rw [if_pos (by decide +kernel)]; kernel_rfl) | (rw [if_neg (by decide +kernel)]; exact ⟨rfl, rfl⟩))
    (fun os started H enc _ => lifted os started H enc)

/-- The statement. -/
theorem proved : Rows.ImagePlaysSaid := over
#print axioms proved
end Go.Proofs.Ytfeepmahipecpaa.imagePlays

