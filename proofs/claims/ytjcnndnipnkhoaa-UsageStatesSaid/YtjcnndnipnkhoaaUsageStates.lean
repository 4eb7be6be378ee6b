/-
  The given statement UsageStatesSaid is proved: whatever the arguments are, the law returns true and leaves its input as it was. No conditions.
-/
import Derived.Test.YtjcnndnipnkhoaaShapes
import Derived.Test.YtjcnndnipnkhoaaConfig
import Derived.Test.YtjcnndnipnkhoaaUsageStatesM
import Derived.WalkKit
import Derived.ProofKit
import Derived.OpenShut
import Derived.ShutString
import Derived.ChangeOld
import Derived.Below
namespace Go.Proofs.Ytjcnndnipnkhoaa.usageStates
open Go.ChangeShapes Go.WideShapes Go.ChangeAt Go.RowKit
open Go.ChangeMaps (open_string shut_string)
open Go.Proofs.Ytjcnndnipnkhoaa.mem Go.Proofs.Ytjcnndnipnkhoaa.base Go.Proofs.Ytjcnndnipnkhoaa.mem Go.Proofs.Ytjcnndnipnkhoaa.base Go.Proofs.Ytjcnndnipnkhoaa.us Go.Proofs.Ytjcnndnipnkhoaa.geom
set_option linter.unusedVariables false

theorem own : ownKnob Try.prog.godebug = none := by kernel_rfl
theorem laidOut : laidOutB Try.prog = true := by kernel_rfl

set_option maxRecDepth 100000 in
set_option maxHeartbeats 4000000 in
theorem walk (a0_0 a0_1 a0_2 : Int) (a1 : Option Addr) (len1 cap1 : Nat) (z1 : List Int) (a2 : Option Addr) (len2 cap2 : Nat) (z2 : List Int) (w : World) (w0_0 : (Lit.int .i64 a0_0).wf = true) (w0_1 : (Lit.int .i64 a0_1).wf = true) (w0_2 : (Lit.int .i64 a0_2).wf = true) (w1 : IsRow .i64 w a1 len1 cap1 z1) (w2 : IsRow .i64 w a2 len2 cap2 z2) :
    Calls Try.prog 6 #[.agg #[.int .i64 a0_0, .int .i64 a0_1, .int .i64 a0_2], .slice a1 len1 cap1, .slice a2 len2 cap2] w fun e w' => e = .returned (.bool true) ∧ Below w.heap.size w w' := by
  obtain ⟨xs, hxl, _, hxv, _⟩ := w1.ints
  obtain ⟨ys, hyl, _, hyv, _⟩ := w2.ints
  have HXV := hide hxv
  have HXL := hide hxl
  have HYV := hide hyv
  have HYL := hide hyl
  clear hxv hxl hyv hyl w1 w2
  have hk0 : Kept [] w (w.alloc (.cells #[.int .i64 a0_0, .int .i64 a0_1, .int .i64 a0_2] 22)) := (Kept.refl [] w).alloc _
  have HK0 := hide hk0
  clear hk0
  go_enter Try.func6, Try.ntmps6
  go_wp2_with fail
  refine (base.config_any a0_0 a0_1 a0_2 _).mono ?_
  rintro e wa ⟨b, s, l, rfl, hok, hk⟩
  have HOK : Hid (Ok b s l) := hide hok
  have HK1 := hide ((HK0.out.trans hk (by simp)).alloc (.cells #[.int .i64 b, .int .i64 s, .int .i64 l] 27))
  have HBC : Hid (Blk (wa.alloc (.cells #[.int .i64 b, .int .i64 s, .int .i64 l] 27)) wa.heap.size 27 #[.int .i64 b, .int .i64 s, .int .i64 l]) := hide (Blk.new _ _ _)
  obtain ⟨C, hC⟩ : ∃ C, wa.heap.size = C := ⟨_, rfl⟩
  obtain ⟨wb, hwb⟩ : ∃ wb, wa.alloc (.cells #[.int .i64 b, .int .i64 s, .int .i64 l] 27) = wb := ⟨_, rfl⟩
  rw [hwb] at HK1 HBC
  rw [hC] at HBC
  have c0 : wb.cell? ⟨C, 0, none⟩ = some (.int .i64 b) := HBC.out.cell 0
  have c1 : wb.cell? ⟨C, 1, none⟩ = some (.int .i64 s) := HBC.out.cell 1
  have c2 : wb.cell? ⟨C, 2, none⟩ = some (.int .i64 l) := HBC.out.cell 2
  have hwC : Hid (w.heap.size ≤ C) := hide (by rw [← hC]; exact (HK0.out.trans hk (by simp)).size)
  clear hk hok HK0
  go_wp2_with fail
  refine (new_yes b s l _ HOK.out).mono ?_
  rintro e wq ⟨p, r, q, rfl, hg, hp, hk⟩
  have HG := hide hg
  have HK2 := hide (HK1.out.trans hk (by simp))
  have HBC2 := hide (hk.blk HBC.out (by simp))
  obtain ⟨m, hm⟩ : ∃ m : Nat, (m : Int) = s := ⟨s.toNat, by have := HOK.out.2.1; omega⟩
  subst hm
  have hs8 := HOK.out.2.1
  have d1 : wq.cell? ⟨C, 1, none⟩ = some (.int .i64 m) := HBC2.out.cell 1
  clear hg hp hk c0 c1 c2 hwb hC HK1 HBC
  by_cases hlen : len1 < m ∨ len2 < m
  · have hg1 : ((len1 : Int) < m) ∨ (¬ ((len1 : Int) < m) ∧ (len2 : Int) < m) := by omega
    clear hlen
    rcases hg1 with hg1 | ⟨hg1, hg2⟩
    all_goals
      go_wp2_with fail
      refine (awake_any _).mono ?_
      rintro e wd ⟨rfl, hk⟩
      have HKF := hide (HK2.out.trans hk (by simp))
      clear hk
      go_wp2
      go_ret
      exact ⟨rfl, HKF.out.below (by simp)⟩
  · have hg1 : ¬ ((len1 : Int) < m) := by omega
    have hg2 : ¬ ((len2 : Int) < m) := by omega
    have hl1 : m ≤ len1 := by omega
    have hl2 : m ≤ len2 := by omega
    have hd1 : decide (len1 < m) = false := decide_eq_false (by omega)
    have hd2 : decide (len2 < m) = false := decide_eq_false (by omega)
    obtain ⟨us, hus⟩ : ∃ us, mkS xs ys m = us := ⟨_, rfl⟩
    have HUL : Hid (us.length = m) := hide (by rw [← hus]; exact mkS_len _ _ _)
    have HUP : Hid (plain us) := hide (by rw [← hus]; exact mkS_plain _ _ _)
    have HUM : Hid (allMay us) := hide (by rw [← hus]; exact mkS_may _ _ _)
    have HUS := hide hus
    have HPC : Hid (p < wq.heap.size ∧ C < wq.heap.size ∧ w.heap.size ≤ wq.heap.size) := hide ⟨HG.out.lt, HBC2.out.lt, HK2.out.size⟩
    clear hlen hus
    have hka : Kept [] wq (wq.alloc (.cells (cellsI [0, 0, 0]) 22)) := (Kept.refl [] wq).alloc _
    have HN0 : Hid (Blk (wq.alloc (.cells (cellsI [0, 0, 0]) 22)) wq.heap.size 22 (cellsI (cntS us 0))) := hide (Blk.new _ _ _)
    have HKa := hide hka
    obtain ⟨N, hN⟩ : ∃ N, wq.heap.size = N := ⟨_, rfl⟩
    have HNe := hide hN
    rw [hN] at HN0
    rw [hN] at HPC
    clear hka
    go_wp2
    obtain ⟨wd, hwd⟩ : ∃ wd, wq.alloc (.cells (cellsI [0, 0, 0]) 22) = wd := ⟨_, rfl⟩
    rw [hwd] at HN0 HKa
    rw [show wq.alloc (.cells #[.int .i64 0, .int .i64 0, .int .i64 0] 22) = wd from hwd]
    have hsd : wd.heap.size = N + 1 := by rw [← hwd, World.size_alloc, hN]
    have HSD := hide hsd
    have ho0 : Hid (wd.ownsRow (N + 1) 61 2 (.slice none 0 0) 0 (usesOf (us.take 0))) := hide (World.ownsRow_nil _ _ _ _)
    have hkr : Hid (Kept [N] wd wd) := hide (Kept.refl _ _)
    have HL1 := hide hl1
    have HL2 := hide hl2
    clear hwd hN hsd d1 hg1 hg2 hl1 hl2 hd1 hd2
    go_loopw [10, 12, 13] (fun v i u wr => ∃ k : Nat, k ≤ m ∧ i = .int .i64 k ∧ Hid (wr.ownsRow (N + 1) 61 2 v k (usesOf (us.take k))) ∧ Hid (Blk wr N 22 (cellsI (cntS us k))) ∧ Hid (Kept [N] wd wr)) (fun v i u _ => m - (intOf i).toNat)
    case atStart => exact ⟨0, by omega, rfl, ho0, HN0, hkr⟩
    case round =>
      clear ho0 HN0 hkr
      obtain ⟨k, hk, rfl, HO, HN, HKR⟩ := hrel
      have hkc : Kept [] wq wr := HKa.out.trans HKR.out (by have := HNe.out; simp; omega)
      have hkw : Kept [] w wr := HK2.out.trans hkc (by simp)
      have e1 : wr.cell? ⟨C, 1, none⟩ = some (.int .i64 m) := (hkc.blk HBC2.out (by simp)).cell 1
      by_cases hlt : k < m
      · obtain ⟨x, hx⟩ : ∃ x, xs[k]? = some x := ⟨_, List.getElem?_eq_getElem (by rw [HXL.out]; have := HL1.out; omega)⟩
        obtain ⟨y, hy⟩ : ∃ y, ys[k]? = some y := ⟨_, List.getElem?_eq_getElem (by rw [HYL.out]; have := HL2.out; omega)⟩
        obtain ⟨ad1, rfl, _, x0⟩ := (HXV.out.kept hkw (by simp)) k (I x) (by rw [List.getElem?_map, hx]; rfl)
        obtain ⟨ad2, rfl, _, y0⟩ := (HYV.out.kept hkw (by simp)) k (I y) (by rw [List.getElem?_map, hy]; rfl)
        unfold I at x0 y0
        obtain ⟨j, hj, hj3⟩ : ∃ j : Nat, x % 3 = (j : Int) ∧ j < 3 := ⟨(x % 3).toNat, by omega, by omega⟩
        obtain ⟨z, hz⟩ : ∃ z, y % 2147483647 = z := ⟨_, rfl⟩
        have hux : us[k]? = some ⟨(j : Int), z, 0⟩ := by rw [← HUS.out, mkS_at xs ys m k hlt x y hx hy, hj, hz]
        obtain ⟨hc1, hc2⟩ := cntS_next hux rfl hj3
        have hcl := inState_length us j k
        obtain ⟨c, hc⟩ : ∃ c, (inState us j k).length = c := ⟨_, rfl⟩
        rw [hc] at hc1 hc2 hcl
        have HJ := hide hj
        have HZ := hide hz
        have HUX := hide hux
        have HC1 := hide hc1
        have HC2 := hide hc2
        have HKC := hide hkc
        have g1 : IntKind.i64.wrap ((c : Int) + 1) = (c : Int) + 1 := IntWalk.i64_in _ (by omega)
        have hk0 : (0 : Int) ≤ k := by omega
        have hk1 : (k : Int) < len1 := by have := HL1.out; omega
        have hk2 : (k : Int) < len2 := by have := HL2.out; omega
        have hj0 : (0 : Int) ≤ j := by omega
        have hj1 : (j : Int) < 3 := by omega
        clear hx hy hj hz hux hc1 hc2 hc hkw hkc
        have hld : ∀ W, Kept [] wr W → Kept [] wr W ∧ W.cell? (ad1.add k) = some (.int .i64 x) ∧ W.cell? (ad2.add k) = some (.int .i64 y) := fun W h => ⟨h, h.cell x0 (by simp), h.cell y0 (by simp)⟩
        go_wp2
        go_cut [13] from 58 to 68 (fun u wx => u = .pointer (some ⟨wr.heap.size, 0, none⟩) ∧ wx = (wr.alloc (.cells #[.int .i64 j, .int .i64 z] 61)).drew)
        case first =>
          go_region_held3 (fun W => Kept [] wr W ∧ W.cell? (ad1.add k) = some (.int .i64 x) ∧ W.cell? (ad2.add k) = some (.int .i64 y))
            (first | exact hld _ (Kept.refl [] wr).drew | exact hld _ ((Kept.refl [] wr).alloc _).drew | exact hld _ ((((Kept.refl [] wr).alloc _).set_ (.inr (Nat.le_refl _)) _ _).set_ (.inr (Nat.le_refl _)) _ _).drew | assumption)
            (first
              | (go_at_call 26; refine (round_any x 3 _ (by omega) (by omega)).mono ?_; rintro e wx ⟨rfl, rfl⟩; rw [HJ.out])
              | (go_at_call 26; refine (round_any y 2147483647 _ (by omega) (by omega)).mono ?_; rintro e wx ⟨rfl, rfl⟩; rw [HZ.out]))
          all_goals
            go_wp2_with fail
            go_meet
            case rel => exact ⟨rfl, rfl⟩
        case rest =>
          obtain ⟨hu, hwc⟩ := hcut
          subst hu
          have hba : Blk wc wr.heap.size 61 #[.int .i64 j, .int .i64 z] := by rw [hwc]; exact (Blk.new wr _ _).drew
          have hka : Kept [] wr wc := by rw [hwc]; exact ((Kept.refl [] wr).alloc _).drew
          obtain ⟨G, hG⟩ : ∃ G, wr.heap.size = G := ⟨_, rfl⟩
          rw [hG] at hba ⊢
          have hNG : Hid (N ≠ G) := hide (by have := HN.out.lt; omega)
          have u0 : wc.cell? ⟨G, 0, none⟩ = some (.int .i64 j) := hba.cell 0
          have u1 : wc.cell? ⟨G, 1, none⟩ = some (.int .i64 z) := hba.cell 1
          have HO2 := hide (owns.own_keep HO.out hka (by simp))
          have HN2 := hide (hka.blk HN.out (by simp))
          have HKR2 := hide (HKR.out.trans hka (by simp))
          have HBA := hide hba
          have hZ2 : N + 1 ≤ wc.heap.size := by have := HN2.out.lt; omega
          have HZ2 := hide hZ2
          have hnoG : ∀ z, G ≤ z → z ∉ u10.ownBlock.toList := fun z hz hm => by have := (owns.own_blk HO.out z hm).2.1; omega
          have hnoN : N ∉ u10.ownBlock.toList := fun hm => by have := (owns.own_blk HO.out N hm).1; omega
          clear hwc hka hba x0 y0 hld hG
          go_wp2_with (at_builtin; refine wpList_append_vals rfl (.tmp 69) (.tmp 71) 23 rfl (N + 1) 61 (.agg #[.int .i64 0, .int .i64 0]) 2 16 Try.underlying23 use_info rfl (by omega) u10 k (usesOf (us.take k)) rfl (owns.own_keep HO2.out ((Kept.refl [] wc).alloc _) (by simp)) [] _ 1 1 (Rw.use ⟨j, z, 0⟩) rfl rfl (Vals.new _ [] _ _ (by simp)) (one_use _) (by simp only [maxLen]; omega) (by omega) (by have := HZ2.out; simp; omega) ?_; intro v1 w6 hown1 hk1 hat1; have q0 := hk1.cell (p := ⟨G, 0, none⟩) (((Kept.refl [] wc).alloc (.cells #[.int .i64 j, .int .i64 z] 61)).cell u0 (by simp)) (hnoG _ (Nat.le_refl _)); have hnb := hk1.blk (HN2.out.alloc (.cells #[.int .i64 j, .int .i64 z] 61)) hnoN; have q1 := cell_i hnb HC1.out; have q2 := hnb.frozen j; have HNB := hide hnb; clear hnb)
          have HK6 := hide (HKR2.out.alloc (.cells #[.int .i64 j, .int .i64 z] 61))
          have HK7 : Hid (Kept [N] wd w6) := hide (HK6.out.trans hk1 (fun i hi => .inr (by have h1 := (owns.own_blk HO2.out i hi).1; have h2 := HSD.out; omega)))
          have HK8 := hide (HK7.out.set_ (b := N) (.inl (by simp)) j (.int .i64 ((c : Int) + 1)))
          have HO8 : Hid ((w6.setCell ⟨N, j, none⟩ (.int .i64 ((c : Int) + 1))).ownsRow (N + 1) 61 2 v1 (k + 1) (usesOf (us.take (k + 1)))) := hide (by
            rw [take_snoc HUX.out, show usesOf (us.take k ++ [(⟨j, z, 0⟩ : Rw)]) = usesOf (us.take k) ++ Rw.use ⟨j, z, 0⟩ by simp [usesOf]]
            refine owns.own_keep hown1 ((Kept.refl [N] w6).set_ (.inl (by simp)) _ _) (fun i hi hm => ?_)
            simp only [List.mem_singleton] at hi
            subst hi
            have := (owns.own_blk hown1 i hm).1
            omega)
          have HN8 : Hid (Blk (w6.setCell ⟨N, j, none⟩ (.int .i64 ((c : Int) + 1))) N 22 (cellsI (cntS us (k + 1)))) := hide (by
            have := HNB.out.set_ j (.int .i64 ((c : Int) + 1))
            rwa [cellsI_set, HC2.out] at this)
          clear hown1 hk1 hat1
          go_wp2
          go_roundw
          case rel => exact ⟨k + 1, by omega, by go_num, HO8, HN8, HK8⟩
          case measure => simp [intOf]; omega
      · have hke : k = m := by omega
        have hkc2 := hide hkc
        have hkw2 := hide hkw
        rw [hke] at HO HN
        clear hkc hkw hke
        rw [List.take_of_length_le (by rw [HUL.out]; exact Nat.le_refl _)] at HO
        have HGr := hide (HG.out.kept hkc2.out)
        obtain ⟨Au, cu, rfl, _, hvu⟩ := owns.own_read HO.out
        have HVU := hide (hvu [] (by simp))
        have hpN : Hid (p ≠ N ∧ N < wr.heap.size) := hide (by have h1 := HPC.out; have h2 := HN.out.lt; omega)
        have HCT := HN
        have HTF := hide (tell_false us)
        clear hvu
        go_wp2_with fail
        refine (new_given p b m l r q Au m cu us _ HGr.out HVU.out HUL.out rfl HUP.out).mono ?_
        rintro e x1 (⟨_, t, V, rfl, ht1, hV1, ht, hk⟩ | ⟨hno, _⟩)
        · have HT1 := hide ht
          have HG1 := hide (HGr.out.kept hk)
          have HK1 := hide (hkw2.out.trans hk (by simp))
          have HN1 := hide (hk.blk HCT.out (by simp))
          have HV1 := hide (HVU.out.kept hk (by simp))
          have HW1 : Hid (w.heap.size ≤ V) := hide (Nat.le_trans hkw2.out.size hV1)
          have hVN : Hid (V ≠ N ∧ V ≠ p) := hide (by have h1 := hpN.out; have h2 := HGr.out.lt; omega)
          clear ht hk ht1 hV1
          go_wp2_with fail
          refine (uses_any HT1.out false).mono ?_
          rintro e x2 ⟨g2, rfl, hg2, hb2, hk⟩
          rw [HTF.out] at hb2
          rw [HUL.out]
          have hvu2 : Vals x2 [] (some ⟨g2, 0, none⟩) (usesOf us) := Vals.blk 0 hb2 (by simp) (fun i v hv => by simpa using hv)
          have HVU2 := hide hvu2
          have HT2 := hide (HT1.out.keep hk)
          have HG2 := hide (HG1.out.kept hk)
          have HK2' := hide (HK1.out.trans hk (by simp))
          have HN2 := hide (hk.blk HN1.out (by simp))
          have HV2 := hide (HV1.out.kept hk (by simp))
          clear hg2 hb2 hk hvu2
          go_wp2_with fail
          refine (new_given p b m l r q (some ⟨g2, 0, none⟩) m m us _ HG2.out HVU2.out HUL.out rfl HUP.out).mono ?_
          rintro e x3 (⟨_, t3, V3, rfl, ht1, hV1, ht, hk⟩ | ⟨hno, _⟩)
          · have HT3 := hide (HT2.out.keep hk)
            have HX3 := hide ht
            have HK3 := hide (HK2'.out.trans hk (by simp))
            have HN3 := hide (hk.blk HN2.out (by simp))
            have HV3 := hide (HV2.out.kept hk (by simp))
            have HW3 : Hid (w.heap.size ≤ V3) := hide (Nat.le_trans HK2'.out.size hV1)
            have hV3N : Hid (V3 ≠ N) := hide (by have h2 := HN2.out.lt; omega)
            have hV3x : Hid (x2.heap.size ≤ V3) := hide hV1
            clear ht hk ht1 hV1
            have hl2s := inState_length us 2 us.length
            have hl0s := inState_length us 0 us.length
            have ht99 : ((inState us 2 us.length).take (99 : Int).toNat) = inState us 2 us.length := List.take_of_length_le (by have := HUL.out; omega)
            have HT99 := hide ht99
            have HPD := hide (plain_dead HUP.out)
            have HPF := hide (plain_free HUP.out)
            obtain ⟨c0, hc0⟩ : ∃ c0, (inState us 0 us.length).length = c0 := ⟨_, rfl⟩
            obtain ⟨c2, hc2⟩ : ∃ c2, (inState us 2 us.length).length = c2 := ⟨_, rfl⟩
            have HC0 := hide hc0
            have HC2 := hide hc2
            have hk1 := cell_i HN3.out (i := 0) (x := (c0 : Int)) (by rw [← hc0, HUL.out]; rfl)
            have hk2 := cell_i HN3.out (i := 2) (x := (c2 : Int)) (by rw [← hc2, HUL.out]; rfl)
            have g9 : IntKind.i64.wrap ((c0 : Int) + c2) = (c0 : Int) + c2 := IntWalk.i64_in _ (by have := HUL.out; omega)
            have hst : ∀ W, Kept [V3] x3 W → Kept [V3] x3 W ∧ W.cell? ⟨N, 0, none⟩ = some (.int .i64 c0) ∧ W.cell? ⟨N, 2, none⟩ = some (.int .i64 c2) := fun W h => ⟨h, h.cell hk1 (by have := hV3N.out; simp; omega), h.cell hk2 (by have := hV3N.out; simp; omega)⟩
            have HST := hide hst
            clear hc0 hc2 ht99 hst hl2s hl0s
            have htV3 : Hid (t ≠ V3 ∧ V ≠ V3) := hide (by have h1 := HT2.out.pl; have h2 := HT2.out.Vl; have h3 := hV3x.out; omega)
            go_wp2
            go_region_held3 (fun W => Kept [V3] x3 W ∧ W.cell? ⟨N, 0, none⟩ = some (.int .i64 c0) ∧ W.cell? ⟨N, 2, none⟩ = some (.int .i64 c2))
              (first | exact HST.out _ (Kept.refl [V3] x3).drew | exact HST.out _ ((‹Kept [V3] x3 _ ∧ _›).1.trans hk (by simp)) | assumption)
              (first
                | (go_at_call 28; have hg := k5; refine (free_any (some ⟨t3, 0, none⟩) (us.map Rw.free) (by rw [List.length_map, HUL.out]; omega) _ (.inr ⟨t3, V3, b, m, l, r, q, rfl, HX5.out⟩)).mono ?_; rintro e y6 ⟨rfl, hk⟩; have k6 := hide hk; rw [HPF.out, HC0.out, HC2.out, Int.natCast_add])
                | (go_at_call 28; have hS := ‹Kept [V3] x3 _ ∧ _›; refine (free_any (some ⟨t, 0, none⟩) us (by rw [HUL.out]; omega) _ (.inr ⟨t, V, b, m, l, r, q, rfl, HT3.out.kept hS.1 (by have := htV3.out; simp; omega) (by have := htV3.out; simp; omega)⟩)).mono ?_; rintro e y1 ⟨rfl, hk⟩; have k1 := hide hk; rw [HC0.out])
                | (go_at_call 34; have hS := ‹Kept [V3] x3 _ ∧ _›; refine (sealed_any (some ⟨t, 0, none⟩) us (by rw [HUL.out]; omega) 99 _ (.inr ⟨t, V, b, m, l, r, q, rfl, HT3.out.kept hS.1 (by have := htV3.out; simp; omega) (by have := htV3.out; simp; omega)⟩)).mono ?_; rintro e y2 ⟨v2, rfl, ho, hk⟩; rw [HT99.out] at ho; obtain ⟨A2, d2, rfl, _, _⟩ := owns.own_read ho; clear ho; have k2 := hide hk; rw [HC2.out])
                | (go_at_call 33; refine (uses_any (((HX3.out.keep (Kept.refl [] x3).drew).keep k1.out).keep k2.out) false).mono ?_; rintro e y3 ⟨g3, rfl, _, hb3, hk⟩; have k3 := hide hk; rw [HTF.out] at hb3; have hv3 := hide (show Vals y3 [] (some ⟨g3, 0, none⟩) (usesOf us) from Vals.blk 0 hb3 (by simp) (fun i v hv => by simpa using hv)); clear hb3; rw [HUL.out])
                | (go_at_call 35; refine (alike_any (some ⟨g3, 0, none⟩) Au m m cu us _ HUL.out hv3.out ((((HV3.out.kept (Kept.refl [] x3).drew (by simp)).kept k1.out (by simp)).kept k2.out (by simp)).kept k3.out (by simp)) (by omega)).mono ?_; rintro e y4 ⟨rfl, hk⟩; have k4 := hide hk)
                | (go_at_call 24; refine (release_any t3 V3 b m l r q us _ (((((HX3.out.keep (Kept.refl [] x3).drew).keep k1.out).keep k2.out).keep k3.out).keep k4.out)).mono ?_; rintro e y5 ⟨A5, d5, rfl, _, ht5, hk⟩; have k5 := hide hk; have HX5 := hide ht5; clear ht5; rw [HPD.out, HC2.out])
                | (go_at_call 7; refine (awake_any _).mono ?_; rintro e y7 ⟨rfl, hk⟩; have k7 := hide hk))
            have hS := ‹Kept [V3] x3 _ ∧ _›
            have HKF := hide (HK3.out.trans hS.1 (by have := HW3.out; simp; omega))
            clear hS
            go_wp2
            go_ret
            exact ⟨rfl, HKF.out.below (by simp)⟩
          · exact absurd HUM.out hno
        · exact absurd HUM.out hno

/-! ### the row's step, as the guide's skeleton has it -/
set_option maxRecDepth 100000 in
theorem lifted (os : Os) (started : os.Started) (H : Type) (enc : TypeId × Value → H) :
    ReturnsInHanded {} Try.checked os 6 .any (Rows.usageStatesSpec.pre6 enc Try.prog Try.f6 Rows.usageStatesRow.domain false) (Rows.usageStatesSpec.post enc Try.prog Try.f6 false true false false) := by
  refine returnsInHanded_of_change (C := Try.checked) own started (by kernel_rfl) Try.func6
    (ChangeSpec.witness6 (enc := enc) (C := Try.checked) false ⟨#[], #[.agg #[.int .i64 0, .int .i64 0, .int .i64 0], .slice none 0 0, .slice none 0 0], []⟩ 8 (by kernel_rfl) (by kernel_rfl) (by kernel_rfl) (by kernel_rfl)) ?_
  intro W base args ds gs before hval0 hW hcnd _
  have hval : ∀ (j : Nat) t v, Try.f6.params[j]? = some t → args[j]? = some v → Value.okWide Try.prog W .any base t v := hval0
  have hW' := hW
  obtain ⟨p, q, hA0, hV, rfl, hfz, hnd⟩ := hW
  have hA : DataW.TrodAll enc Try.prog W 0 (fun _ => true) true Try.f6.params.toList args.toList ds p := hA0
  rw [Try.params6] at hA hval
  obtain ⟨v0, vs0, d0, ds0, p0, q0, hargs, rfl, rfl, h0, r0⟩ := trodAll_cons hA
  obtain ⟨v1, vs1, d1, ds1, p1, q1, rfl, rfl, rfl, h1, r1⟩ := trodAll_cons r0
  obtain ⟨v2, vs2, d2, ds2, p2, q2, rfl, rfl, rfl, h2, r2⟩ := trodAll_cons r1
  obtain ⟨rfl, rfl, rfl⟩ := trodAll_nil r2
  obtain rfl : args = #[v0, v1, v2] := by cases args; simp_all
  obtain ⟨rfl, rfl⟩ := trodVars_none hV
  have k0 := h0
  have lt0 : ∀ x ∈ p0, x.block < W.heap.size := by obtain ⟨m, hm⟩ := k0; exact DataW.trod_lt m _ _ _ hm
  obtain ⟨xs0, rfl, hl0, hx0⟩ := agg_ints (ts := List.replicate 3 3) (n := 3) (by kernel_rfl) (by kernel_rfl) (fun u hu => by rw [List.eq_of_mem_replicate hu]; exact Try.underlying3) (by kernel_rfl) (hval 0 22 v0 rfl rfl)
  obtain ⟨a0_0, a0_1, a0_2, rfl⟩ := list3 hl0
  have w0_0 := hx0 a0_0 (by simp)
  have w0_1 := hx0 a0_1 (by simp)
  have w0_2 := hx0 a0_2 (by simp)
  obtain ⟨a1, len1, cap1, rfl⟩ := okWide_slice Try.underlying48 (hval 1 48 v1 rfl rfl)
  have k1 := h1
  have lt1 : ∀ x ∈ p1, x.block < W.heap.size := by obtain ⟨m, hm⟩ := k1; exact DataW.trod_lt m _ _ _ hm
  obtain ⟨z1, w1⟩ : ∃ zs, IsRow .i64 W a1 len1 cap1 zs := by
    obtain ⟨fuel, hf⟩ := h1
    rcases open_ints Try.underlying48 Try.underlying3 (by kernel_rfl) hf with ⟨hcs, _⟩ | ⟨x, l, c, zs, hcs, _, hl, hm, hz, _, hcell, hwz⟩
    · simp [Value.cells] at hcs
      obtain ⟨rfl, rfl, rfl⟩ := hcs
      exact ⟨[], .inl ⟨rfl, rfl, rfl, rfl⟩⟩
    · simp [Value.cells] at hcs
      obtain ⟨rfl, rfl, rfl⟩ := hcs
      exact ⟨zs, .inr ⟨_, rfl, hl, hm, by simpa using hz, hcell, hwz⟩⟩
  obtain ⟨a2, len2, cap2, rfl⟩ := okWide_slice Try.underlying48 (hval 2 48 v2 rfl rfl)
  have k2 := h2
  have lt2 : ∀ x ∈ p2, x.block < W.heap.size := by obtain ⟨m, hm⟩ := k2; exact DataW.trod_lt m _ _ _ hm
  obtain ⟨z2, w2⟩ : ∃ zs, IsRow .i64 W a2 len2 cap2 zs := by
    obtain ⟨fuel, hf⟩ := h2
    rcases open_ints Try.underlying48 Try.underlying3 (by kernel_rfl) hf with ⟨hcs, _⟩ | ⟨x, l, c, zs, hcs, _, hl, hm, hz, _, hcell, hwz⟩
    · simp [Value.cells] at hcs
      obtain ⟨rfl, rfl, rfl⟩ := hcs
      exact ⟨[], .inl ⟨rfl, rfl, rfl, rfl⟩⟩
    · simp [Value.cells] at hcs
      obtain ⟨rfl, rfl, rfl⟩ := hcs
      exact ⟨zs, .inr ⟨_, rfl, hl, hm, by simpa using hz, hcell, hwz⟩⟩
  clear hA0 hval0
  refine (walk a0_0 a0_1 a0_2 a1 len1 cap1 z1 a2 len2 cap2 z2 W w0_0 w0_1 w0_2 w1 w2).mono fun e W' ⟨he, bel⟩ => ?_
  subst he
  exact ⟨_, rfl, _, _, _, [], _, [], hW', trodAll_mk1 (shut_bool Try.underlying4 _), (trodAll_cons_mk (Below.trod laidOut (by kernel_rfl) (of_decide_eq_true (by kernel_rfl)) k0 bel lt0) (trodAll_cons_mk (Below.trod laidOut (by kernel_rfl) (of_decide_eq_true (by kernel_rfl)) k1 bel lt1) (trodAll_cons_mk (Below.trod laidOut (by kernel_rfl) (of_decide_eq_true (by kernel_rfl)) k2 bel lt2) trodAll_mk0))), rfl, bel.frame _, fun h => by cases h⟩

theorem over : Rows.usageStatesRow.holds Try.pinned (OpenSpec.ofChange Rows.usageStatesSpec) :=
  OpenClaim.holds_of_wide 6 Try.f6 rfl rfl rfl rfl rfl rfl rfl ⟨rfl, rfl, rfl, rfl, rfl⟩ rfl rfl rfl rfl rfl (by kernel_rfl) Try.func6 (by kernel_rfl)
    (of_decide_eq_true (by kernel_rfl)) (by unfold Func.isWrapper; first | (rw [if_pos (by decide +kernel)]; kernel_rfl) | (rw [if_neg (by decide +kernel)]; exact ⟨rfl, rfl⟩))
    (fun os started H enc _ => lifted os started H enc)

/-- The statement. -/
theorem proved : Rows.UsageStatesSaid := over
#print axioms proved
end Go.Proofs.Ytjcnndnipnkhoaa.usageStates

