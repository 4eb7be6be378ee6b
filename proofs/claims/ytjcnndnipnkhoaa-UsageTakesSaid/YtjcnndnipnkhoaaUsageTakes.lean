/-
  The given statement UsageTakesSaid is proved: whatever the arguments are, the law returns true and leaves its input as it was. No conditions.
-/
import Derived.Test.YtjcnndnipnkhoaaShapes
import Derived.Test.YtjcnndnipnkhoaaConfig
import Derived.Test.YtjcnndnipnkhoaaUsageTakesM
import Derived.WalkKit
import Derived.ProofKit
import Derived.OpenShut
import Derived.ShutString
import Derived.ChangeOld
import Derived.Below
namespace Go.Proofs.Ytjcnndnipnkhoaa.usageTakes
open Go.ChangeShapes Go.WideShapes Go.ChangeAt Go.RowKit
open Go.ChangeMaps (open_string shut_string)
open Go.Proofs.Ytjcnndnipnkhoaa.mem Go.Proofs.Ytjcnndnipnkhoaa.base Go.Proofs.Ytjcnndnipnkhoaa.mem Go.Proofs.Ytjcnndnipnkhoaa.base Go.Proofs.Ytjcnndnipnkhoaa.us Go.Proofs.Ytjcnndnipnkhoaa.geom
set_option linter.unusedVariables false

theorem own : ownKnob Try.prog.godebug = none := by kernel_rfl
theorem laidOut : laidOutB Try.prog = true := by kernel_rfl

set_option maxRecDepth 100000 in
set_option maxHeartbeats 4000000 in
theorem walk (a0_0 a0_1 a0_2 : Int) (a1 : Option Addr) (len1 cap1 : Nat) (z1 : List Int) (a2 : Int) (w : World) (w0_0 : (Lit.int .i64 a0_0).wf = true) (w0_1 : (Lit.int .i64 a0_1).wf = true) (w0_2 : (Lit.int .i64 a0_2).wf = true) (w1 : IsRow .i64 w a1 len1 cap1 z1) (w2 : (Lit.int .i64 a2).wf = true) :
    Calls Try.prog 4 #[.agg #[.int .i64 a0_0, .int .i64 a0_1, .int .i64 a0_2], .slice a1 len1 cap1, .int .i64 a2] w fun e w' => e = .returned (.bool true) ∧ Below w.heap.size w w' := by
  obtain ⟨xs, hxl, _, hxv, _⟩ := w1.ints
  have HXV := hide hxv
  have HXL := hide hxl
  clear hxv hxl w1
  have HK0 : Hid (Kept [] w (w.alloc (.cells #[.int .i64 a0_0, .int .i64 a0_1, .int .i64 a0_2] 22))) := hide ((Kept.refl [] w).alloc _)
  by_cases hout : 40 < len1
  · have hg1 : (40 : Int) < len1 := by omega
    have hd1 : decide (40 < len1) = true := decide_eq_true hout
    clear hout
    go_enter Try.func4, Try.ntmps4
    go_wp2_with fail
    refine (awake_any _).mono ?_
    rintro e wd ⟨rfl, hk⟩
    have HKF := hide (HK0.out.trans hk (by simp))
    clear hk
    go_wp2
    go_ret
    exact ⟨rfl, HKF.out.below (by simp)⟩
  have hg1 : ¬ ((40 : Int) < len1) := by omega
  have hd1 : decide (40 < len1) = false := decide_eq_false hout
  have hl1 : len1 ≤ 40 := by omega
  clear hout
  go_enter Try.func4, Try.ntmps4
  go_wp2_with fail
  refine (base.config_any a0_0 a0_1 a0_2 _).mono ?_
  rintro e wa ⟨b, s, l, rfl, hok, hk⟩
  have HOK : Hid (Ok b s l) := hide hok
  have HK1 := hide ((HK0.out.trans hk (by simp)).alloc (.cells #[.int .i64 b, .int .i64 s, .int .i64 l] 27))
  have HBC : Hid (Blk (wa.alloc (.cells #[.int .i64 b, .int .i64 s, .int .i64 l] 27)) wa.heap.size 27 #[.int .i64 b, .int .i64 s, .int .i64 l]) := hide (Blk.new _ _ _)
  obtain ⟨C, hC⟩ : ∃ C, wa.heap.size = C := ⟨_, rfl⟩
  obtain ⟨wb, hwb⟩ : ∃ wb, wa.alloc (.cells #[.int .i64 b, .int .i64 s, .int .i64 l] 27) = wb := ⟨_, rfl⟩
  rw [hwb] at HK1 HBC
  rw [hC] at HBC
  have c0 : wb.cell? ⟨C, 0, none⟩ = some (.int .i64 b) := HBC.out.cell 0
  have c1 : wb.cell? ⟨C, 1, none⟩ = some (.int .i64 s) := HBC.out.cell 1
  have c2 : wb.cell? ⟨C, 2, none⟩ = some (.int .i64 l) := HBC.out.cell 2
  clear hk hok HK0
  go_wp2_with fail
  refine (new_yes b s l _ HOK.out).mono ?_
  rintro e wq ⟨p, r, q, rfl, hg, hp, hk⟩
  have HG := hide hg
  have HK2 := hide (HK1.out.trans hk (by simp))
  have HBC2 := hide (hk.blk HBC.out (by simp))
  obtain ⟨m, hm⟩ : ∃ m : Nat, (m : Int) = s := ⟨s.toNat, by have := HOK.out.2.1; omega⟩
  subst hm
  have hs8 := HOK.out.2.1
  clear hg hp hk c0 c1 c2 hwb hC HK1 HBC
  go_wp2_with fail
  refine (new_none p b m l r q none 0 _ HG.out).mono ?_
  rintro e w3 ⟨t, V, rfl, ht1, hV1, ht, hk⟩
  rw [show ((m : Int)).toNat = m by simp, mkT_new] at ht
  have HT := hide ht
  have HK3 := hide (HK2.out.trans hk (by simp))
  have HBC3 := hide (hk.blk HBC2.out (by simp))
  have hVw : Hid (w.heap.size ≤ V ∧ C < V) := hide (by have h1 := HK2.out.size; have h2 := HBC2.out.lt; omega)
  clear ht hk ht1 hV1 HG HK2 HBC2
  have hmk := made_bools m (by omega) w3
  have c1 : w3.cell? ⟨C, 1, none⟩ = some (.int .i64 m) := HBC3.out.cell 1
  have HN0 : Hid (Blk (w3.alloc (.cells (cellsB (List.replicate m false)) 4)) w3.heap.size 4 (cellsB (List.replicate m false))) := hide (Blk.new _ _ _)
  have hka : Kept [] w3 (w3.alloc (.cells (cellsB (List.replicate m false)) 4)) := (Kept.refl [] w3).alloc _
  have HT3 := hide (HT.out.keep hka)
  have HK4 := hide (HK3.out.trans hka (by simp))
  have HBC4 := hide (hka.blk HBC3.out (by simp))
  have hVN : Hid (V < w3.heap.size ∧ t < w3.heap.size ∧ C < w3.heap.size ∧ w.heap.size ≤ w3.heap.size) := hide ⟨HT.out.Vl, HT.out.pl, HBC3.out.lt, HK3.out.size⟩
  obtain ⟨N, hN⟩ : ∃ N, w3.heap.size = N := ⟨_, rfl⟩
  obtain ⟨w4, hw4⟩ : ∃ w4, w3.alloc (.cells (cellsB (List.replicate m false)) 4) = w4 := ⟨_, rfl⟩
  rw [hw4] at HN0 HT3 HK4 HBC4
  rw [hN] at HN0 hVN
  clear hka HT HK3 HBC3
  go_wp2
  clear hmk hw4 hN c1 hg1 hd1
  go_loopw [12, 13] (fun i kk wr => ∃ (j : Nat) (tk : List Bool), j ≤ len1 ∧ i = .int .i64 j ∧ Hid (tk.length = m) ∧ Hid (Blk wr N 4 (cellsB tk)) ∧ Hid (TAt wr t V b m l r q (mkT tk)) ∧ Hid (Blk wr C 27 #[.int .i64 b, .int .i64 m, .int .i64 l]) ∧ Hid (Kept [] w wr)) (fun i kk _ => len1 - (intOf i).toNat)
  case atStart => exact ⟨0, List.replicate m false, by omega, rfl, hide (by simp), HN0, HT3, HBC4, HK4⟩
  case round =>
    clear HN0 HT3 HBC4 HK4
    obtain ⟨j, tk, hj, rfl, HTL, HN, HT, HBC, HK⟩ := hrel
    by_cases hlt : j < len1
    · obtain ⟨x, hx⟩ : ∃ x, xs[j]? = some x := ⟨_, List.getElem?_eq_getElem (by rw [HXL.out]; exact hlt)⟩
      obtain ⟨ad, rfl, _, x0⟩ := (HXV.out.kept HK.out (by simp)) j (I x) (by rw [List.getElem?_map, hx]; rfl)
      unfold I at x0
      have hmpos : (0 : Int) < m := by omega
      obtain ⟨k, hk, hkm⟩ : ∃ k : Nat, x % m = (k : Int) ∧ k < m := ⟨(x % m).toNat, by have := Int.emod_nonneg x (show (m : Int) ≠ 0 by omega); omega, by have h1 := Int.emod_nonneg x (show (m : Int) ≠ 0 by omega); have h2 := Int.emod_lt_of_pos x hmpos; omega⟩
      obtain ⟨bb, hbb⟩ : ∃ bb, tk[k]? = some bb := ⟨_, List.getElem?_eq_getElem (by rw [HTL.out]; exact hkm)⟩
      have HKX := hide hk
      have HGS := hide (mkT_grabs hbb)
      have HGB := hide (mkT_grab hbb)
      have HBB := hide hbb
      have c1 : wr.cell? ⟨C, 1, none⟩ = some (.int .i64 m) := HBC.out.cell 1
      have hj0 : (0 : Int) ≤ j := by omega
      have hj1 : (j : Int) < len1 := by omega
      have hk0 : (0 : Int) ≤ k := by omega
      have hk1 : (k : Int) < m := by omega
      clear hx hk hbb
      go_wp2
      go_region_held3 (fun W => W.cell? (ad.add j) = some (.int .i64 x) ∧ W.cell? ⟨C, 1, none⟩ = some (.int .i64 m))
        (first | exact ⟨x0, c1⟩ | assumption)
        (first | (go_at_call 26; refine (round_any x m _ (by omega) (by omega)).mono ?_; rintro e wx ⟨rfl, rfl⟩; rw [HKX.out]))
      have hne : ((!bb) == bb) = false := by cases bb <;> rfl
      all_goals
        have t0 := cell_b HN.out HBB.out
        have tf := HN.out.frozen k
        go_wp2
        go_region_held3 (fun W => W.cell? ⟨N, k, none⟩ = some (.bool bb))
          (first | exact t0 | exact t1)
          (first | (go_at_call 20; refine (grab_any ((HT.out.keep (Kept.refl [] wr).drew).keep (Kept.refl [] wr.drew).drew) k).mono ?_; rintro e w5 ⟨rfl, ht5, hk5⟩; have t1 := hk5.cell (p := ⟨N, k, none⟩) (show World.cell? _ ⟨N, k, none⟩ = _ from t0) (by have := hVN.out; simp; omega); have HT5 := hide ht5; have HK5 := hide hk5; clear ht5 hk5; rw [HGS.out]))
        have hn5 := HK5.out.blk (HN.out.drew.drew) (by have := hVN.out; simp; omega)
        have tf5 := hn5.frozen k
        have hkn : Kept [N] w5 (w5.setCell ⟨N, k, none⟩ (.bool true)) := (Kept.refl [N] w5).set_ (.inl (by simp)) _ _
        have HT6 : Hid (TAt (w5.setCell ⟨N, k, none⟩ (.bool true)) t V b m l r q (mkT (tk.set k true))) := hide (by
          have := HT5.out
          rw [HGB.out] at this
          exact this.kept hkn (by have := hVN.out; simp; omega) (by have := hVN.out; simp; omega))
        have HC6 := hide (hkn.blk (HK5.out.blk HBC.out.drew.drew (by have := hVw.out; simp; omega)) (by have := hVN.out; simp; omega))
        have HK6 := hide ((HK.out.drew.drew.trans HK5.out (by have := hVw.out; simp; omega)).trans hkn (by have := hVN.out; simp; omega))
        have HN6 : Hid (Blk (w5.setCell ⟨N, k, none⟩ (.bool true)) N 4 (cellsB (tk.set k true))) := hide (by
          have := hn5.set_ k (.bool true)
          rwa [cellsB_set] at this)
        have HL6 : Hid ((tk.set k true).length = m) := hide (by rw [List.length_set]; exact HTL.out)
        clear hn5 hkn t0
        go_wp2
        go_roundw
        case rel => exact ⟨j + 1, tk.set k true, by omega, by go_num, HL6, HN6, HT6, HC6, HK6⟩
        case measure => simp [intOf]; omega
    · have hje : ¬ ((j : Int) < len1) := by omega
      clear hlt hj
      generalize wr = w5 at *
      have c1 : w5.cell? ⟨C, 1, none⟩ = some (.int .i64 m) := HBC.out.cell 1
      go_wp2
      go_loopw [14, 15] (fun f i wr => ∃ k : Nat, k ≤ m ∧ i = .int .i64 k ∧ f = .int .i64 ((inState (mkT tk) 0 k).length : Nat) ∧ wr = w5) (fun f i _ => m - (intOf i).toNat)
      case atStart => exact ⟨0, by omega, rfl, rfl, rfl⟩
      case round =>
        obtain ⟨k, hk, rfl, rfl, rfl⟩ := hrel
        by_cases hlt : k < m
        · obtain ⟨bb, hbb⟩ : ∃ bb, tk[k]? = some bb := ⟨_, List.getElem?_eq_getElem (by rw [HTL.out]; exact hlt)⟩
          have t0 := cell_b HN.out hbb
          have HFN := hide (free_next hbb)
          have hk0 : (0 : Int) ≤ k := by omega
          have hk1 : (k : Int) < m := by omega
          have hil := inState_length (mkT tk) 0 k
          have g1 : IntKind.i64.wrap (((inState (mkT tk) 0 k).length : Int) + 1) = ((inState (mkT tk) 0 k).length : Int) + 1 := IntWalk.i64_in _ (by omega)
          clear hbb
          cases bb
          · go_wp2
            go_roundw
            case rel => exact ⟨k + 1, by omega, by go_num, by rw [HFN.out]; simp, trivial⟩
            case measure => simp [intOf]; omega
          · go_wp2
            go_roundw
            case rel => exact ⟨k + 1, by omega, by go_num, by rw [HFN.out]; simp, trivial⟩
            case measure => simp [intOf]; omega
        · have hke : k = m := by omega
          clear c1
          have HCN0 : Hid ((inState (mkT tk) 0 (mkT tk).length).length = (inState (mkT tk) 0 k).length) := hide (by rw [mkT_len, HTL.out, hke])
          have hkl : ¬ ((k : Int) < m) := by omega
          obtain ⟨c0, hc0⟩ : ∃ c0, (inState (mkT tk) 0 k).length = c0 := ⟨_, rfl⟩
          rw [hc0] at HCN0
          rw [hc0]
          have c1 : wr.cell? ⟨C, 1, none⟩ = some (.int .i64 m) := HBC.out.cell 1
          clear hc0 hke hk hlt
          go_wp2
          clear c1 hkl
          generalize wr = w6 at *
          go_loopw [14, 16, 17, 18, 19, 20, 21, 22] (fun f la ii al ss okk can kk wr => ∃ (i : Nat) (tk2 : List Bool) (ls : Int) (c : Nat), i ≤ m + 2 ∧ ii = .int .i64 i ∧ la = .int .i64 ls ∧ f = .int .i64 c ∧ Hid (tk2.length = m) ∧ Hid ((inState (mkT tk2) 0 (mkT tk2).length).length = c) ∧ -1 ≤ ls ∧ ls < m ∧ Hid (∀ i : Nat, (i : Int) ≤ ls → tk2[i]? = some true) ∧ Hid (Blk wr N 4 (cellsB tk2)) ∧ Hid (TAt wr t V b m l r q (mkT tk2)) ∧ Hid (Blk wr C 27 #[.int .i64 b, .int .i64 m, .int .i64 l]) ∧ Hid (Kept [] w wr)) (fun f la ii al ss okk can kk _ => m + 2 - (intOf ii).toNat)
          case atStart => exact ⟨0, tk, -1, c0, by omega, rfl, rfl, rfl, HTL, HCN0, by omega, by omega, hide (fun i hi => by omega), HN, HT, HBC, HK⟩
          case round =>
            clear HTL HCN0 HN HT HBC HK
            obtain ⟨i, tk2, ls, c, hi, rfl, rfl, rfl, HTL, HCN, hls1, hls2, HAL, HN, HT, HBC, HK⟩ := hrel
            have c1 : wr.cell? ⟨C, 1, none⟩ = some (.int .i64 m) := HBC.out.cell 1
            have g2 : IntKind.i64.wrap ((m : Int) + 2) = (m : Int) + 2 := IntWalk.i64_in _ (by omega)
            by_cases hlt : i < m + 2
            · have hltI : (i : Int) < (m : Int) + 2 := by omega
              have hmpos : (0 : Int) < m := by omega
              obtain ⟨zz, hzz⟩ : ∃ zz, a2 % (m : Int) = zz := ⟨_, rfl⟩
              have HZZ := hide hzz
              clear hzz
              go_wp2_with fail
              refine (round_any a2 m _ (by omega) (by omega)).mono ?_
              rintro e w7 ⟨rfl, rfl⟩
              rw [HZZ.out]
              by_cases hall : zz ≤ (i : Int)
              · have hd : decide (zz ≤ (i : Int)) = true := decide_eq_true hall
                rcases next_case tk2 true with ⟨hn, hle⟩ | ⟨k, hnk, _, hkf, hka, hgt⟩
                · have HLE : Hid ((c : Int) ≤ backOf true) := hide (by rw [← HCN.out]; exact hle)
                  have hc0 : (c : Int) ≤ 0 := by have := HLE.out; simpa [backOf] using this
                  have q1 : decide (2 < c) = false := decide_eq_false (by omega)
                  have q2 : decide (0 < c) = false := decide_eq_false (by omega)
                  have q3 : ¬ (2 : Int) < c := by omega
                  have q4 : ¬ (0 : Int) < c := by omega
                  clear hn hle hc0
                  have HNO := hide (take_no (HT.out) true (by rw [HCN.out]; exact HLE.out))
                  have HFR := hide (HCN.out)
                  go_wp2_with fail
                  refine HNO.out.mono ?_
                  rintro e w8 ⟨rfl, hk⟩
                  have HT8 := hide (HT.out.keep hk)
                  have HN8 := hide (hk.blk HN.out (by simp))
                  have HC8 := hide (hk.blk HBC.out (by simp))
                  have HK8 := hide (HK.out.trans hk (by simp))
                  clear hk
                  go_wp2
                  go_roundw
                  case rel => exact ⟨i + 1, tk2, ls, c, by omega, by go_num, rfl, rfl, HTL, HCN, hls1, hls2, HAL, HN8, HT8, HC8, HK8⟩
                  case measure => simp [intOf]; omega
                · have HNK := hide hnk
                  have hgt2 : (0 : Int) < c := by rw [← HCN.out]; simpa [backOf] using hgt
                  have q2 : decide (0 < c) = true := decide_eq_true (by omega)
                  clear hnk hgt
                  by_cases h2 : 2 < c
                  · have q1 : decide (2 < c) = true := decide_eq_true h2
                    have q3 : (2 : Int) < c := by omega
                    have hkl : ls < (k : Int) := by
                      by_cases h : (k : Int) ≤ ls
                      · have := HAL.out k h
                        rw [hkf] at this
                        cases this
                      · omega
                    have HKF := hide hkf
                    have HAK := hide hka
                    have HFL := hide (free_less hkf)
                    have HGB := hide (mkT_grab hkf)
                    have HST : Hid ((us.rowAt (mkT (tk2.set k true)) (k : Int)).s = 1) := hide (by rw [mkT_state (b := true) (by rw [List.getElem?_set, if_pos rfl, if_pos (List.getElem?_eq_some_iff.1 hkf).1])]; rfl)
                    have HL2 : Hid ((tk2.set k true).length = m) := hide (by rw [List.length_set]; exact HTL.out)
                    have HAL2 : Hid (∀ i : Nat, (i : Int) ≤ (k : Int) → (tk2.set k true)[i]? = some true) := hide (fun i hi => by
                      rw [List.getElem?_set]
                      by_cases e : k = i
                      · subst e
                        rw [if_pos rfl, if_pos (List.getElem?_eq_some_iff.1 hkf).1]
                      · rw [if_neg e]
                        exact hka i (by omega))
                    have hkm : k < m := by have := (List.getElem?_eq_some_iff.1 hkf).1; have := HTL.out; omega
                    have hcp : Hid (0 < c) := hide (by have h1 := HFL.out; have h2 := HCN.out; omega)
                    have HC9 : Hid ((inState (mkT (tk2.set k true)) 0 (mkT (tk2.set k true)).length).length = c - 1) := hide (by have h1 := HFL.out; have h2 := HCN.out; omega)
                    have hc1 := hcp.out
                    have h3 : (mkT tk2).length = m := by rw [mkT_len, HTL.out]
                    have hcc : (c : Int) ≤ 32 := by have h1 := HCN.out; have h2 := inState_length (mkT tk2) 0 (mkT tk2).length; omega
                    have g8 : IntKind.i64.wrap ((c : Int) - 1) = ((c - 1 : Nat) : Int) := by rw [show ((c : Int) - 1) = ((c - 1 : Nat) : Int) by omega]; exact IntWalk.i64_in _ (by omega)
                    have g7 : IntKind.i64.wrap (ls + 1) = ls + 1 := IntWalk.i64_in _ (by omega)
                    have hk0 : (0 : Int) ≤ k := by omega
                    have hk1 : (k : Int) < m := by omega
                    have HNX := hide (take_ex HT.out true)
                    have hnk : nextOf (mkT tk2) true = k := HNK.out
                    rw [hnk] at HNX
                    clear hkf hka hnk
                    go_wp2_with fail
                    refine HNX.out.mono ?_
                    rintro e w8 ⟨zz, rfl, rfl, ht, hk⟩
                    rw [HGB.out] at ht
                    rw [show tookOf (k : Int) = k from if_pos hk0, decide_eq_true hk0]
                    have HT8 := hide ht
                    have hn8 := hk.blk HN.out (by have := hVN.out; simp; omega)
                    have hb8 := hk.blk HBC.out (by have := hVw.out; simp; omega)
                    have HN8 := hide hn8
                    have HC8 := hide hb8
                    have HK8 := hide (HK.out.trans hk (by have := hVw.out; simp; omega))
                    have t0 := cell_b hn8 HKF.out
                    have t1 : w8.cell? ⟨C, 1, none⟩ = some (.int .i64 m) := hb8.cell 1
                    clear ht hk hn8 hb8
                    go_wp2_with fail
                    refine (state_any HT8.out k).mono ?_
                    rintro e w9 ⟨rfl, hk⟩
                    rw [HST.out]
                    have HT9 := hide (HT8.out.keep hk)
                    have hn9 := hk.blk HN8.out (by simp)
                    have HN9 := hide hn9
                    have HC9b := hide (hk.blk HC8.out (by simp))
                    have HK9 := hide (HK8.out.trans hk (by simp))
                    clear hk t0 t1 hn9
                    go_wp2
                    generalize wr = wv at *
                    go_loopw [22] (fun kk wr => ∃ u : Int, ls + 1 ≤ u ∧ u ≤ k ∧ kk = .int .i64 u ∧ wr = w9) (fun kk _ => ((k : Int) - intOf kk).toNat)
                    case atStart => exact ⟨ls + 1, by omega, by omega, rfl, rfl⟩
                    case round =>
                      obtain ⟨u, hu1, hu2, rfl, rfl⟩ := hrel
                      by_cases hut : u < k
                      · obtain ⟨v, rfl⟩ := Int.eq_ofNat_of_zero_le (show 0 ≤ u by omega)
                        have hv1 : (v : Int) < m := by omega
                        have hv0 : (0 : Int) ≤ v := by omega
                        have tv := cell_b HN9.out (HAK.out v (by omega))
                        have g6 : IntKind.i64.wrap ((v : Int) + 1) = (v : Int) + 1 := IntWalk.i64_in _ (by omega)
                        go_wp2
                        go_roundw
                        case rel => exact ⟨(v : Int) + 1, by omega, by omega, rfl, trivial⟩
                        case measure => simp [intOf]; omega
                      · have hut2 : ¬ u < (k : Int) := hut
                        have tk0 := cell_b HN9.out HKF.out
                        have fk0 := HN9.out.frozen k
                        have hkn : Kept [N] wr (wr.setCell ⟨N, k, none⟩ (.bool true)) := (Kept.refl [N] wr).set_ (.inl (by simp)) _ _
                        have HTa := hide (HT9.out.kept hkn (by have := hVN.out; simp; omega) (by have := hVN.out; simp; omega))
                        have HCa := hide (hkn.blk HC9b.out (by have := hVN.out; simp; omega))
                        have HKa := hide (HK9.out.trans hkn (by have := hVN.out; simp; omega))
                        have HNa : Hid (Blk (wr.setCell ⟨N, k, none⟩ (.bool true)) N 4 (cellsB (tk2.set k true))) := hide (by
                          have := HN9.out.set_ k (.bool true)
                          rwa [cellsB_set] at this)
                        clear hkn
                        go_wp2
                        go_roundw
                        case rel => exact ⟨i + 1, tk2.set k true, k, c - 1, by omega, by go_num, rfl, rfl, HL2, HC9, by omega, by omega, HAL2, HNa, HTa, HCa, HKa⟩
                        case measure => simp [intOf]; omega
                  · have q1 : decide (2 < c) = false := decide_eq_false h2
                    have q3 : ¬ (2 : Int) < c := by omega
                    have hkl : ls < (k : Int) := by
                      by_cases h : (k : Int) ≤ ls
                      · have := HAL.out k h
                        rw [hkf] at this
                        cases this
                      · omega
                    have HKF := hide hkf
                    have HAK := hide hka
                    have HFL := hide (free_less hkf)
                    have HGB := hide (mkT_grab hkf)
                    have HST : Hid ((us.rowAt (mkT (tk2.set k true)) (k : Int)).s = 1) := hide (by rw [mkT_state (b := true) (by rw [List.getElem?_set, if_pos rfl, if_pos (List.getElem?_eq_some_iff.1 hkf).1])]; rfl)
                    have HL2 : Hid ((tk2.set k true).length = m) := hide (by rw [List.length_set]; exact HTL.out)
                    have HAL2 : Hid (∀ i : Nat, (i : Int) ≤ (k : Int) → (tk2.set k true)[i]? = some true) := hide (fun i hi => by
                      rw [List.getElem?_set]
                      by_cases e : k = i
                      · subst e
                        rw [if_pos rfl, if_pos (List.getElem?_eq_some_iff.1 hkf).1]
                      · rw [if_neg e]
                        exact hka i (by omega))
                    have hkm : k < m := by have := (List.getElem?_eq_some_iff.1 hkf).1; have := HTL.out; omega
                    have hcp : Hid (0 < c) := hide (by have h1 := HFL.out; have h2 := HCN.out; omega)
                    have HC9 : Hid ((inState (mkT (tk2.set k true)) 0 (mkT (tk2.set k true)).length).length = c - 1) := hide (by have h1 := HFL.out; have h2 := HCN.out; omega)
                    have hc1 := hcp.out
                    have h3 : (mkT tk2).length = m := by rw [mkT_len, HTL.out]
                    have hcc : (c : Int) ≤ 32 := by have h1 := HCN.out; have h2 := inState_length (mkT tk2) 0 (mkT tk2).length; omega
                    have g8 : IntKind.i64.wrap ((c : Int) - 1) = ((c - 1 : Nat) : Int) := by rw [show ((c : Int) - 1) = ((c - 1 : Nat) : Int) by omega]; exact IntWalk.i64_in _ (by omega)
                    have g7 : IntKind.i64.wrap (ls + 1) = ls + 1 := IntWalk.i64_in _ (by omega)
                    have hk0 : (0 : Int) ≤ k := by omega
                    have hk1 : (k : Int) < m := by omega
                    have HNX := hide (take_ex HT.out true)
                    have hnk : nextOf (mkT tk2) true = k := HNK.out
                    rw [hnk] at HNX
                    clear hkf hka hnk
                    go_wp2_with fail
                    refine HNX.out.mono ?_
                    rintro e w8 ⟨zz, rfl, rfl, ht, hk⟩
                    rw [HGB.out] at ht
                    rw [show tookOf (k : Int) = k from if_pos hk0, decide_eq_true hk0]
                    have HT8 := hide ht
                    have hn8 := hk.blk HN.out (by have := hVN.out; simp; omega)
                    have hb8 := hk.blk HBC.out (by have := hVw.out; simp; omega)
                    have HN8 := hide hn8
                    have HC8 := hide hb8
                    have HK8 := hide (HK.out.trans hk (by have := hVw.out; simp; omega))
                    have t0 := cell_b hn8 HKF.out
                    have t1 : w8.cell? ⟨C, 1, none⟩ = some (.int .i64 m) := hb8.cell 1
                    clear ht hk hn8 hb8
                    go_wp2_with fail
                    refine (state_any HT8.out k).mono ?_
                    rintro e w9 ⟨rfl, hk⟩
                    rw [HST.out]
                    have HT9 := hide (HT8.out.keep hk)
                    have hn9 := hk.blk HN8.out (by simp)
                    have HN9 := hide hn9
                    have HC9b := hide (hk.blk HC8.out (by simp))
                    have HK9 := hide (HK8.out.trans hk (by simp))
                    clear hk t0 t1 hn9
                    go_wp2
                    generalize wr = wv at *
                    go_loopw [22] (fun kk wr => ∃ u : Int, ls + 1 ≤ u ∧ u ≤ k ∧ kk = .int .i64 u ∧ wr = w9) (fun kk _ => ((k : Int) - intOf kk).toNat)
                    case atStart => exact ⟨ls + 1, by omega, by omega, rfl, rfl⟩
                    case round =>
                      obtain ⟨u, hu1, hu2, rfl, rfl⟩ := hrel
                      by_cases hut : u < k
                      · obtain ⟨v, rfl⟩ := Int.eq_ofNat_of_zero_le (show 0 ≤ u by omega)
                        have hv1 : (v : Int) < m := by omega
                        have hv0 : (0 : Int) ≤ v := by omega
                        have tv := cell_b HN9.out (HAK.out v (by omega))
                        have g6 : IntKind.i64.wrap ((v : Int) + 1) = (v : Int) + 1 := IntWalk.i64_in _ (by omega)
                        go_wp2
                        go_roundw
                        case rel => exact ⟨(v : Int) + 1, by omega, by omega, rfl, trivial⟩
                        case measure => simp [intOf]; omega
                      · have hut2 : ¬ u < (k : Int) := hut
                        have tk0 := cell_b HN9.out HKF.out
                        have fk0 := HN9.out.frozen k
                        have hkn : Kept [N] wr (wr.setCell ⟨N, k, none⟩ (.bool true)) := (Kept.refl [N] wr).set_ (.inl (by simp)) _ _
                        have HTa := hide (HT9.out.kept hkn (by have := hVN.out; simp; omega) (by have := hVN.out; simp; omega))
                        have HCa := hide (hkn.blk HC9b.out (by have := hVN.out; simp; omega))
                        have HKa := hide (HK9.out.trans hkn (by have := hVN.out; simp; omega))
                        have HNa : Hid (Blk (wr.setCell ⟨N, k, none⟩ (.bool true)) N 4 (cellsB (tk2.set k true))) := hide (by
                          have := HN9.out.set_ k (.bool true)
                          rwa [cellsB_set] at this)
                        clear hkn
                        go_wp2
                        go_roundw
                        case rel => exact ⟨i + 1, tk2.set k true, k, c - 1, by omega, by go_num, rfl, rfl, HL2, HC9, by omega, by omega, HAL2, HNa, HTa, HCa, HKa⟩
                        case measure => simp [intOf]; omega
              · have hd : decide (zz ≤ (i : Int)) = false := decide_eq_false hall
                rcases next_case tk2 false with ⟨hn, hle⟩ | ⟨k, hnk, _, hkf, hka, hgt⟩
                · have HLE : Hid ((c : Int) ≤ backOf false) := hide (by rw [← HCN.out]; exact hle)
                  have hc0 : (c : Int) ≤ 2 := by have := HLE.out; simpa [backOf] using this
                  have q1 : decide (2 < c) = false := decide_eq_false (by omega)
                  have q3 : ¬ (2 : Int) < c := by omega
                  clear hn hle hc0
                  have HNO := hide (take_no (HT.out) false (by rw [HCN.out]; exact HLE.out))
                  have HFR := hide (HCN.out)
                  go_wp2_with fail
                  refine HNO.out.mono ?_
                  rintro e w8 ⟨rfl, hk⟩
                  have HT8 := hide (HT.out.keep hk)
                  have HN8 := hide (hk.blk HN.out (by simp))
                  have HC8 := hide (hk.blk HBC.out (by simp))
                  have HK8 := hide (HK.out.trans hk (by simp))
                  clear hk
                  go_wp2
                  go_roundw
                  case rel => exact ⟨i + 1, tk2, ls, c, by omega, by go_num, rfl, rfl, HTL, HCN, hls1, hls2, HAL, HN8, HT8, HC8, HK8⟩
                  case measure => simp [intOf]; omega
                · have HNK := hide hnk
                  have hgt2 : (2 : Int) < c := by rw [← HCN.out]; simpa [backOf] using hgt
                  have q1 : decide (2 < c) = true := decide_eq_true (by omega)
                  clear hnk hgt
                  have hkl : ls < (k : Int) := by
                    by_cases h : (k : Int) ≤ ls
                    · have := HAL.out k h
                      rw [hkf] at this
                      cases this
                    · omega
                  have HKF := hide hkf
                  have HAK := hide hka
                  have HFL := hide (free_less hkf)
                  have HGB := hide (mkT_grab hkf)
                  have HST : Hid ((us.rowAt (mkT (tk2.set k true)) (k : Int)).s = 1) := hide (by rw [mkT_state (b := true) (by rw [List.getElem?_set, if_pos rfl, if_pos (List.getElem?_eq_some_iff.1 hkf).1])]; rfl)
                  have HL2 : Hid ((tk2.set k true).length = m) := hide (by rw [List.length_set]; exact HTL.out)
                  have HAL2 : Hid (∀ i : Nat, (i : Int) ≤ (k : Int) → (tk2.set k true)[i]? = some true) := hide (fun i hi => by
                    rw [List.getElem?_set]
                    by_cases e : k = i
                    · subst e
                      rw [if_pos rfl, if_pos (List.getElem?_eq_some_iff.1 hkf).1]
                    · rw [if_neg e]
                      exact hka i (by omega))
                  have hkm : k < m := by have := (List.getElem?_eq_some_iff.1 hkf).1; have := HTL.out; omega
                  have hcp : Hid (0 < c) := hide (by have h1 := HFL.out; have h2 := HCN.out; omega)
                  have HC9 : Hid ((inState (mkT (tk2.set k true)) 0 (mkT (tk2.set k true)).length).length = c - 1) := hide (by have h1 := HFL.out; have h2 := HCN.out; omega)
                  have hc1 := hcp.out
                  have h3 : (mkT tk2).length = m := by rw [mkT_len, HTL.out]
                  have hcc : (c : Int) ≤ 32 := by have h1 := HCN.out; have h2 := inState_length (mkT tk2) 0 (mkT tk2).length; omega
                  have g8 : IntKind.i64.wrap ((c : Int) - 1) = ((c - 1 : Nat) : Int) := by rw [show ((c : Int) - 1) = ((c - 1 : Nat) : Int) by omega]; exact IntWalk.i64_in _ (by omega)
                  have g7 : IntKind.i64.wrap (ls + 1) = ls + 1 := IntWalk.i64_in _ (by omega)
                  have hk0 : (0 : Int) ≤ k := by omega
                  have hk1 : (k : Int) < m := by omega
                  have HNX := hide (take_ex HT.out false)
                  have hnk : nextOf (mkT tk2) false = k := HNK.out
                  rw [hnk] at HNX
                  clear hkf hka hnk
                  go_wp2_with fail
                  refine HNX.out.mono ?_
                  rintro e w8 ⟨zz, rfl, rfl, ht, hk⟩
                  rw [HGB.out] at ht
                  rw [show tookOf (k : Int) = k from if_pos hk0, decide_eq_true hk0]
                  have HT8 := hide ht
                  have hn8 := hk.blk HN.out (by have := hVN.out; simp; omega)
                  have hb8 := hk.blk HBC.out (by have := hVw.out; simp; omega)
                  have HN8 := hide hn8
                  have HC8 := hide hb8
                  have HK8 := hide (HK.out.trans hk (by have := hVw.out; simp; omega))
                  have t0 := cell_b hn8 HKF.out
                  have t1 : w8.cell? ⟨C, 1, none⟩ = some (.int .i64 m) := hb8.cell 1
                  clear ht hk hn8 hb8
                  go_wp2_with fail
                  refine (state_any HT8.out k).mono ?_
                  rintro e w9 ⟨rfl, hk⟩
                  rw [HST.out]
                  have HT9 := hide (HT8.out.keep hk)
                  have hn9 := hk.blk HN8.out (by simp)
                  have HN9 := hide hn9
                  have HC9b := hide (hk.blk HC8.out (by simp))
                  have HK9 := hide (HK8.out.trans hk (by simp))
                  clear hk t0 t1 hn9
                  go_wp2
                  generalize wr = wv at *
                  go_loopw [22] (fun kk wr => ∃ u : Int, ls + 1 ≤ u ∧ u ≤ k ∧ kk = .int .i64 u ∧ wr = w9) (fun kk _ => ((k : Int) - intOf kk).toNat)
                  case atStart => exact ⟨ls + 1, by omega, by omega, rfl, rfl⟩
                  case round =>
                    obtain ⟨u, hu1, hu2, rfl, rfl⟩ := hrel
                    by_cases hut : u < k
                    · obtain ⟨v, rfl⟩ := Int.eq_ofNat_of_zero_le (show 0 ≤ u by omega)
                      have hv1 : (v : Int) < m := by omega
                      have hv0 : (0 : Int) ≤ v := by omega
                      have tv := cell_b HN9.out (HAK.out v (by omega))
                      have g6 : IntKind.i64.wrap ((v : Int) + 1) = (v : Int) + 1 := IntWalk.i64_in _ (by omega)
                      go_wp2
                      go_roundw
                      case rel => exact ⟨(v : Int) + 1, by omega, by omega, rfl, trivial⟩
                      case measure => simp [intOf]; omega
                    · have hut2 : ¬ u < (k : Int) := hut
                      have tk0 := cell_b HN9.out HKF.out
                      have fk0 := HN9.out.frozen k
                      have hkn : Kept [N] wr (wr.setCell ⟨N, k, none⟩ (.bool true)) := (Kept.refl [N] wr).set_ (.inl (by simp)) _ _
                      have HTa := hide (HT9.out.kept hkn (by have := hVN.out; simp; omega) (by have := hVN.out; simp; omega))
                      have HCa := hide (hkn.blk HC9b.out (by have := hVN.out; simp; omega))
                      have HKa := hide (HK9.out.trans hkn (by have := hVN.out; simp; omega))
                      have HNa : Hid (Blk (wr.setCell ⟨N, k, none⟩ (.bool true)) N 4 (cellsB (tk2.set k true))) := hide (by
                        have := HN9.out.set_ k (.bool true)
                        rwa [cellsB_set] at this)
                      clear hkn
                      go_wp2
                      go_roundw
                      case rel => exact ⟨i + 1, tk2.set k true, k, c - 1, by omega, by go_num, rfl, rfl, HL2, HC9, by omega, by omega, HAL2, HNa, HTa, HCa, HKa⟩
                      case measure => simp [intOf]; omega
            · have hie : ¬ ((i : Int) < (m : Int) + 2) := by omega
              have hfr := free_any (some ⟨t, 0, none⟩) (mkT tk2) (by rw [mkT_len, HTL.out]; omega) wr (.inr ⟨t, V, b, m, l, r, q, rfl, HT.out⟩)
              rw [HCN.out] at hfr
              have HFR := hide hfr
              clear hfr
              go_wp2_with fail
              refine HFR.out.mono ?_
              rintro e w7 ⟨rfl, hk⟩
              have HK7 := hide (HK.out.trans hk (by simp))
              clear hk
              go_wp2_with fail
              refine (awake_any _).mono ?_
              rintro e w8 ⟨rfl, hk⟩
              have HKF := hide (HK7.out.trans hk (by simp))
              clear hk
              go_wp2
              go_ret
              exact ⟨rfl, HKF.out.below (by simp)⟩

/-! ### the row's step, as the guide's skeleton has it -/
set_option maxRecDepth 100000 in
theorem lifted (os : Os) (started : os.Started) (H : Type) (enc : TypeId × Value → H) :
    ReturnsInHanded {} Try.checked os 4 .any (Rows.usageTakesSpec.pre6 enc Try.prog Try.f4 Rows.usageTakesRow.domain false) (Rows.usageTakesSpec.post enc Try.prog Try.f4 false true false false) := by
  refine returnsInHanded_of_change (C := Try.checked) own started (by kernel_rfl) Try.func4
    (ChangeSpec.witness6 (enc := enc) (C := Try.checked) false ⟨#[], #[.agg #[.int .i64 0, .int .i64 0, .int .i64 0], .slice none 0 0, .int .i64 0], []⟩ 8 (by kernel_rfl) (by kernel_rfl) (by kernel_rfl) (by kernel_rfl)) ?_
  intro W base args ds gs before hval0 hW hcnd _
  have hval : ∀ (j : Nat) t v, Try.f4.params[j]? = some t → args[j]? = some v → Value.okWide Try.prog W .any base t v := hval0
  have hW' := hW
  obtain ⟨p, q, hA0, hV, rfl, hfz, hnd⟩ := hW
  have hA : DataW.TrodAll enc Try.prog W 0 (fun _ => true) true Try.f4.params.toList args.toList ds p := hA0
  rw [Try.params4] at hA hval
  obtain ⟨v0, vs0, d0, ds0, p0, q0, hargs, rfl, rfl, h0, r0⟩ := trodAll_cons hA
  obtain ⟨v1, vs1, d1, ds1, p1, q1, rfl, rfl, rfl, h1, r1⟩ := trodAll_cons r0
  obtain ⟨v2, vs2, d2, ds2, p2, q2, rfl, rfl, rfl, h2, r2⟩ := trodAll_cons r1
  obtain ⟨rfl, rfl, rfl⟩ := trodAll_nil r2
  obtain rfl : args = #[v0, v1, v2] := by cases args; simp_all
  obtain ⟨rfl, rfl⟩ := trodVars_none hV
  have k0 := h0
  have lt0 : ∀ x ∈ p0, x.block < W.heap.size := by obtain ⟨m, hm⟩ := k0; exact DataW.trod_lt m _ _ _ hm
  obtain ⟨xs0, rfl, hl0, hx0⟩ := agg_ints (ts := List.replicate 3 3) (n := 3) (by kernel_rfl) (by kernel_rfl) (fun u hu => by rw [List.eq_of_mem_replicate hu]; exact Try.underlying3) (by kernel_rfl) (hval 0 22 v0 rfl rfl)
  obtain ⟨a0_0, a0_1, a0_2, rfl⟩ := list3 hl0
  have w0_0 := hx0 a0_0 (by simp)
  have w0_1 := hx0 a0_1 (by simp)
  have w0_2 := hx0 a0_2 (by simp)
  obtain ⟨a1, len1, cap1, rfl⟩ := okWide_slice Try.underlying48 (hval 1 48 v1 rfl rfl)
  have k1 := h1
  have lt1 : ∀ x ∈ p1, x.block < W.heap.size := by obtain ⟨m, hm⟩ := k1; exact DataW.trod_lt m _ _ _ hm
  obtain ⟨z1, w1⟩ : ∃ zs, IsRow .i64 W a1 len1 cap1 zs := by
    obtain ⟨fuel, hf⟩ := h1
    rcases open_ints Try.underlying48 Try.underlying3 (by kernel_rfl) hf with ⟨hcs, _⟩ | ⟨x, l, c, zs, hcs, _, hl, hm, hz, _, hcell, hwz⟩
    · simp [Value.cells] at hcs
      obtain ⟨rfl, rfl, rfl⟩ := hcs
      exact ⟨[], .inl ⟨rfl, rfl, rfl, rfl⟩⟩
    · simp [Value.cells] at hcs
      obtain ⟨rfl, rfl, rfl⟩ := hcs
      exact ⟨zs, .inr ⟨_, rfl, hl, hm, by simpa using hz, hcell, hwz⟩⟩
  obtain ⟨a2, rfl, rfl, rfl, w2⟩ := open_int Try.underlying3 (hval 2 3 v2 rfl rfl) h2
  clear hA0 hval0
  refine (walk a0_0 a0_1 a0_2 a1 len1 cap1 z1 a2 W w0_0 w0_1 w0_2 w1 w2).mono fun e W' ⟨he, bel⟩ => ?_
  subst he
  exact ⟨_, rfl, _, _, _, [], _, [], hW', trodAll_mk1 (shut_bool Try.underlying4 _), (trodAll_cons_mk (Below.trod laidOut (by kernel_rfl) (of_decide_eq_true (by kernel_rfl)) k0 bel lt0) (trodAll_cons_mk (Below.trod laidOut (by kernel_rfl) (of_decide_eq_true (by kernel_rfl)) k1 bel lt1) (trodAll_cons_mk (shut_int Try.underlying3 w2) trodAll_mk0))), rfl, bel.frame _, fun h => by cases h⟩

theorem over : Rows.usageTakesRow.holds Try.pinned (OpenSpec.ofChange Rows.usageTakesSpec) :=
  OpenClaim.holds_of_wide 4 Try.f4 rfl rfl rfl rfl rfl rfl rfl ⟨rfl, rfl, rfl, rfl, rfl⟩ rfl rfl rfl rfl rfl (by kernel_rfl) Try.func4 (by kernel_rfl)
    (of_decide_eq_true (by kernel_rfl)) (by unfold Func.isWrapper; first | (rw [if_pos (by decide +kernel)]; kernel_rfl) | (rw [if_neg (by decide +kernel)]; exact ⟨rfl, rfl⟩))
    (fun os started H enc _ => lifted os started H enc)

/-- The statement. -/
theorem proved : Rows.UsageTakesSaid := over
#print axioms proved
end Go.Proofs.Ytjcnndnipnkhoaa.usageTakes

