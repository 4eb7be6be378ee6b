/-
  The given statement UsageLivesSaid is proved: whatever the arguments are, the law returns true and leaves its input as it was. No conditions.
-/
import Derived.Test.YtjcnndnipnkhoaaShapes
import Derived.Test.YtjcnndnipnkhoaaUsageLivesM
import Derived.WalkKit
import Derived.ProofKit
import Derived.OpenShut
import Derived.ShutString
import Derived.ChangeOld
import Derived.Below
namespace Go.Proofs.Ytjcnndnipnkhoaa.usageLives
open Go.ChangeShapes Go.WideShapes Go.ChangeAt Go.RowKit
open Go.ChangeMaps (open_string shut_string)
open Go.Proofs.Ytjcnndnipnkhoaa.mem Go.Proofs.Ytjcnndnipnkhoaa.base Go.Proofs.Ytjcnndnipnkhoaa.mem Go.Proofs.Ytjcnndnipnkhoaa.base Go.Proofs.Ytjcnndnipnkhoaa.us Go.Proofs.Ytjcnndnipnkhoaa.geom
set_option linter.unusedVariables false

theorem own : ownKnob Try.prog.godebug = none := by kernel_rfl
theorem laidOut : laidOutB Try.prog = true := by kernel_rfl

set_option maxRecDepth 100000 in
set_option maxHeartbeats 4000000 in
theorem walk (a0 : Option Addr) (len0 cap0 : Nat) (z0 : List Int) (a1 : Int) (w : World) (w0 : IsRow .i64 w a0 len0 cap0 z0) (w1 : (Lit.int .i64 a1).wf = true) :
    Calls Try.prog 5 #[.slice a0 len0 cap0, .int .i64 a1] w fun e w' => e = .returned (.bool true) ∧ Below w.heap.size w w' := by
  obtain ⟨ofs, hofl, _, hov, _⟩ := w0.ints
  have HOV := hide hov
  have HOL := hide hofl
  clear hov hofl w0
  go_enter Try.func5, Try.ntmps5
  go_wp2_with fail
  refine (eight_any _).mono ?_
  rintro e wa ⟨p, rfl, hp, hg, hk⟩
  have HG := hide (hg.kept ((Kept.refl [] wa).alloc (.cells #[.int .i64 4, .int .i64 8, .int .i64 24] 27)))
  have HK := hide (hk.alloc (.cells #[.int .i64 4, .int .i64 8, .int .i64 24] 27))
  obtain ⟨wb, hwb⟩ : ∃ wb, wa.alloc (.cells #[.int .i64 4, .int .i64 8, .int .i64 24] 27) = wb := ⟨_, rfl⟩
  rw [hwb] at HG HK
  clear hg hk
  go_wp2_with fail
  refine (new_none p 4 8 24 2 1 none 0 _ HG.out).mono ?_
  rintro e wc ⟨t, V, rfl, ht1, hV1, ht, hk⟩
  rw [seal_none] at ht
  have HT := hide ht
  have HG3 := hide (HG.out.kept hk)
  have HK3 := hide (HK.out.trans hk (by simp))
  have hpV : Hid (p ≠ V) := hide (by have := HG.out.lt; omega)
  have hVw : Hid (w.heap.size ≤ V) := hide (Nat.le_trans HK.out.size hV1)
  clear ht hk hwb HG HK ht1 hV1 hp
  by_cases hl : len0 ≤ 30
  · have hl2 : ¬ (30 : Int) < len0 := by omega
    go_wp2
    go_loopw [9] (fun i wr => ∃ k : Nat, k ≤ 8 ∧ i = .int .i64 k ∧ Hid (TAt wr t V 4 8 24 2 1 (sealK k)) ∧ Hid (GAt wr p 4 8 24 2 1) ∧ Hid (Kept [] w wr)) (fun i _ => 8 - (intOf i).toNat)
    case atStart => exact ⟨0, by omega, rfl, HT, HG3, HK3⟩
    case round =>
      obtain ⟨k, hk8, rfl, HT4, HG4, HK4⟩ := hrel
      by_cases hlt : k < 8
      · have HSS := hide (seal_step k hlt)
        go_wp2_with fail
        refine (grab_any HT4.out k).mono ?_
        rintro e wd ⟨rfl, ht, hk⟩
        have HT5 := hide ht
        have HG5 := hide (HG4.out.kept hk (by simpa using hpV.out))
        have HK5 := hide (HK4.out.trans hk (by simp; exact hVw.out))
        clear ht hk
        go_wp2_with fail
        refine (shut_any HT5.out k).mono ?_
        rintro e we ⟨rfl, ht, hk⟩
        rw [HSS.out] at ht
        have HT6 := hide ht
        have HG6 := hide (HG5.out.kept hk (by simpa using hpV.out))
        have HK6 := hide (HK5.out.trans hk (by simp; exact hVw.out))
        clear ht hk
        go_wp2
        go_roundw
        case rel => exact ⟨k + 1, by omega, by go_num, HT6, HG6, HK6⟩
        case measure => simp [intOf]; omega
      · have hk8e : k = 8 := by omega
        clear HT HG3 HK3
        rw [hk8e, seal_all] at HT4
        clear hk8e
        go_wp2_with fail
        have HB4 : Hid (Blk (wr.alloc (.cells (cellsI (List.replicate 8 0)) 58)) wr.heap.size 58 (cellsI (List.replicate 8 0))) := hide (Blk.new _ _ _)
        have hka := (Kept.refl [] wr).alloc (.cells (cellsI (List.replicate 8 0)) 58)
        have HT5 := hide (HT4.out.keep hka)
        have HG5 := hide (HG4.out.kept hka)
        have HK5 := hide (HK4.out.trans hka (by simp))
        have hgn : Hid (p < wr.heap.size ∧ V < wr.heap.size ∧ t < wr.heap.size ∧ w.heap.size ≤ wr.heap.size) := hide ⟨HG4.out.lt, HT4.out.Vl, HT4.out.pl, HK4.out.size⟩
        clear hka HT4 HG4 HK4
        obtain ⟨N, hN⟩ : ∃ N, wr.heap.size = N := ⟨_, rfl⟩
        obtain ⟨wn, hwn⟩ : ∃ wn, wr.alloc (.cells (cellsI (List.replicate 8 0)) 58) = wn := ⟨_, rfl⟩
        rw [hwn, hN] at HB4
        rw [hwn] at HT5 HG5 HK5
        rw [hN] at hgn
        have hz8 : cellsI (List.replicate 8 0) = #[.int .i64 0, .int .i64 0, .int .i64 0, .int .i64 0, .int .i64 0, .int .i64 0, .int .i64 0, .int .i64 0] := rfl
        rw [hz8] at hwn
        clear hz8
        clear hk8 hlt
        go_wp2
        rw [hwn, hN]
        clear hwn hN
        go_loopw [11, 12, 13] (fun i kk by_ wr => ∃ (j : Nat) (ns : List Int), j ≤ len0 ∧ i = .int .i64 j ∧ Hid (ns.length = 8) ∧ Hid (∀ y ∈ ns, 0 ≤ y ∧ y ≤ j) ∧ Hid (Blk wr N 58 (cellsI ns)) ∧ Hid (TAt wr t V 4 8 24 2 1 (mkL ns)) ∧ Hid (GAt wr p 4 8 24 2 1) ∧ Hid (Kept [] w wr)) (fun i kk by_ _ => len0 - (intOf i).toNat)
        case atStart => exact ⟨0, List.replicate 8 0, by omega, rfl, hide rfl, hide (by intro y hy; rw [List.eq_of_mem_replicate hy]; simp), HB4, HT5, HG5, HK5⟩
        case round =>
          clear HB4 HT5 HG5 HK5
          obtain ⟨j, ns, hj, rfl, HNL, HNB, HB4, HT5, HG5, HK5⟩ := hrel
          by_cases hlt : j < len0
          · obtain ⟨x, hx⟩ : ∃ x, ofs[j]? = some x := ⟨_, List.getElem?_eq_getElem (by rw [HOL.out]; exact hlt)⟩
            obtain ⟨ad, rfl, _, c0⟩ := (HOV.out.kept HK5.out (by simp)) j (I x) (by rw [List.getElem?_map, hx]; rfl)
            unfold I at c0
            obtain ⟨r, hr, hr2⟩ : ∃ r : Nat, x % 192 = (r : Int) ∧ r < 192 := ⟨(x % 192).toNat, by omega, by omega⟩
            have HR := hide hr
            clear hx hr
            go_wp2_with fail
            refine (round_any x 192 _ (by omega) (by omega)).mono ?_
            rintro e we ⟨rfl, rfl⟩
            rw [HR.out]
            obtain ⟨m, hm⟩ : ∃ m, r / 24 = m := ⟨_, rfl⟩
            have hm8 : m < 8 := by omega
            obtain ⟨y, hy⟩ : ∃ y, ns[m]? = some y := ⟨_, List.getElem?_eq_getElem (by rw [HNL.out]; exact hm8)⟩
            obtain ⟨hy0, hy1⟩ := HNB.out y (List.mem_of_getElem? hy)
            have hyj : y ≤ 30 := by omega
            have HY := hide hy
            have HM := hide hm
            have g1 : IntKind.i64.wrap (10 + (r : Int)) = 10 + r := IntWalk.i64_in _ (by omega)
            have g2 : IntKind.i64.wrap (y + 1) = y + 1 := IntWalk.i64_in _ (by omega)
            have g3 : IntKind.i64.wrap (y + -1) = y + -1 := IntWalk.i64_in _ (by omega)
            have qd : (r : Int).tdiv 24 = (m : Int) := by rw [Int.tdiv_eq_ediv_of_nonneg (by omega)]; omega
            have hm0 : (0 : Int) ≤ m := by omega
            have hm1 : (m : Int) < 8 := by omega
            have HNXT : Hid (∀ by_, ∀ z ∈ ns.set m (next y by_), 0 ≤ z ∧ (by_ ≤ 1 → z ≤ ((j + 1 : Nat) : Int))) := hide (fun by_ z hz => by
              rcases List.mem_or_eq_of_mem_set hz with h | rfl
              · have := HNB.out z h
                omega
              · unfold next
                split <;> omega)
            have HAL : Hid (∀ by_, by_ ≤ 1 → addOf 8 24 2 1 (mkL ns) (10 + r) by_ = mkL (ns.set m (next y by_))) := hide (fun by_ h => by rw [← HM.out]; exact add_live ns r hr2 y by_ (by rw [HM.out]; exact HY.out) (by omega) h)
            have HIN := hide (decide_eq_true (live_in r hr2))
            clear hy hm
            go_wp2_with fail
            all_goals
              refine (seg_any p 4 8 24 2 1 0 _ HG5.out).mono ?_
              rintro e wf ⟨rfl, hk⟩
              rw [show segAt 8 24 2 1 0 = 10 from rfl]
              have HB6 := hide (hk.blk HB4.out (by simp))
              have HT6 := hide (HT5.out.keep hk)
              have HG6 := hide (HG5.out.kept hk)
              have HK6 := hide (HK5.out.trans hk (by simp))
              clear hk
              go_wp2_with fail
              refine (add_any HT6.out (10 + r) _ (by omega)).mono ?_
              rintro e wg ⟨rfl, ht, hk⟩
              rw [HIN.out]
              rw [HAL.out _ (by omega)] at ht
              have hb7 := hk.blk HB6.out (by have := hgn.out; simp; omega)
              have cy := cell_i hb7 HY.out
              have fy := hb7.frozen m
              have HT7 := hide ht
              have HG7 := hide (HG6.out.kept hk (by simpa using hpV.out))
              have HK7 := hide (HK6.out.trans hk (by simp; exact hVw.out))
              have HB7 := hide hb7
              clear ht hk hb7
              have FIN : Hid (∀ b v : Int, next y b = v → b ≤ 1 → TAt wg t V 4 8 24 2 1 (mkL (ns.set m (next y b))) → ∃ (j_1 : Nat) (ns : List Int), j_1 ≤ len0 ∧ (Value.int .i64 ((j : Int) + 1)) = .int .i64 j_1 ∧ Hid (ns.length = 8) ∧ Hid (∀ y ∈ ns, 0 ≤ y ∧ y ≤ j_1) ∧ Hid (Blk (wg.setCell ⟨N, m, none⟩ (.int .i64 v)) N 58 (cellsI ns)) ∧ Hid (TAt (wg.setCell ⟨N, m, none⟩ (.int .i64 v)) t V 4 8 24 2 1 (mkL ns)) ∧ Hid (GAt (wg.setCell ⟨N, m, none⟩ (.int .i64 v)) p 4 8 24 2 1) ∧ Hid (Kept [] w (wg.setCell ⟨N, m, none⟩ (.int .i64 v)))) := hide (fun b v hv hb ht => by
                subst hv
                have hkn : Kept [N] wg (wg.setCell ⟨N, m, none⟩ (.int .i64 (next y b))) := (Kept.refl [N] wg).set_ (.inl (by simp)) _ _
                have hgg := hgn.out
                refine ⟨j + 1, ns.set m (next y b), by omega, rfl, hide (by rw [List.length_set]; exact HNL.out), hide (fun z hz => ⟨(HNXT.out b z hz).1, (HNXT.out b z hz).2 hb⟩), hide ?_, hide (ht.kept hkn (by simp; omega) (by simp; omega)), hide (HG7.out.kept hkn (by simp; omega)), hide (HK7.out.trans hkn (by simp; omega))⟩
                have := HB7.out.set_ m (.int .i64 (next y b))
                rwa [cellsI_set] at this)
              go_wp2
              go_roundw
              case rel => exact FIN.out _ _ (by first | rfl | (unfold next; rw [if_neg (by omega)])) (by omega) HT7.out
              case measure => simp [intOf]; omega
          · have hje : j = len0 := by omega
            have hb1 : Hid (∀ y ∈ ns, 0 ≤ y ∧ y ≤ 30) := hide (fun y hy => by have := HNB.out y hy; omega)
            have hnlt : ¬ ((j : Int) < len0) := by omega
            clear hlt hj hje HNB
            generalize wr = w4 at *
            obtain ⟨Bz, hBz⟩ : ∃ Bz, w4.heap.size = Bz := ⟨_, rfl⟩
            have HBz : Hid (w4.heap.size = Bz) := hide hBz
            have HNz : Hid (N < Bz ∧ p < Bz ∧ V < Bz ∧ t < Bz ∧ w.heap.size ≤ Bz) := hide (by have h1 := HB4.out.lt; have h2 := HG5.out.lt; have h3 := HT5.out.Vl; have h4 := HT5.out.pl; have h5 := HK5.out.size; omega)
            have hkr : Hid (Kept [] w4 w4) := hide (Kept.refl _ _)
            have ho0 : Hid (w4.ownsRow Bz 3 1 (.slice none 0 0) (deadIds (mkL ns) 0).length ((deadIds (mkL ns) 0).map I)) := hide (World.ownsRow_nil _ _ _ _)
            go_wp2
            clear hBz
            go_loopw [14, 15] (fun v i ws => ∃ k : Nat, k ≤ 8 ∧ i = .int .i64 k ∧ Hid (ws.ownsRow Bz 3 1 v (deadIds (mkL ns) k).length ((deadIds (mkL ns) k).map I)) ∧ Hid (Kept [] w4 ws)) (fun v i _ => 8 - (intOf i).toNat)
            case atStart => exact ⟨0, by omega, rfl, ho0, hkr⟩
            case round =>
              obtain ⟨k, hk, rfl, HO, HKR⟩ := hrel
              by_cases hlt : k < 8
              · obtain ⟨y, hy⟩ : ∃ y, ns[k]? = some y := ⟨_, List.getElem?_eq_getElem (by rw [HNL.out]; exact hlt)⟩
                have cy := cell_i (HKR.out.blk HB4.out (by simp)) hy
                have HRA := hide (rowAt_yes (mkL_at hy))
                have HDN := hide (mkL_dead hy)
                have hk0 : (0 : Int) ≤ k := by omega
                have hk1 : (k : Int) < 8 := by omega
                have hdl := dead_length (mkL ns) k
                have HT6 := hide (HT5.out.keep HKR.out)
                clear hy
                go_wp2
                go_region_held3 (fun W => Kept [] wr W ∧ W.cell? ⟨N, k, none⟩ = some (.int .i64 y))
                  (first | exact ⟨(Kept.refl [] wr).drew, cy⟩ | exact held_one' (by assumption) hkx | assumption)
                  (first
                    | (go_at_call 31; have hS := ‹Kept [] wr _ ∧ _›; refine (live_any (HT6.out.keep hS.1) k).mono ?_; rintro e wx ⟨rfl, hkx⟩; rw [HRA.out])
                    | (go_at_call 27; have hS := ‹Kept [] wr _ ∧ _›; refine (state_any (HT6.out.keep hS.1) k).mono ?_; rintro e wx ⟨rfl, hkx⟩; rw [HRA.out]))
                have hS := ‹Kept [] wr _ ∧ _›
                have HK9 := hide hS.1
                have cy9 := hS.2
                clear hS
                rename World => w9
                have HO9 := hide (owns.own_keep HO.out HK9.out (by simp))
                have HZ9 : Hid (Bz ≤ w9.heap.size) := hide (by have h1 := (HKR.out.trans HK9.out (by simp)).size; have h2 := HBz.out; omega)
                have HKR9 := hide (HKR.out.trans HK9.out (by simp))
                obtain ⟨d, hd⟩ : ∃ d, (deadIds (mkL ns) k).length = d := ⟨_, rfl⟩
                have HDD := hide hd
                rw [hd] at HO9 hdl
                clear hd
                by_cases hy0 : y = 0
                · have HDY : Hid (deadIds (mkL ns) (k + 1) = deadIds (mkL ns) k ++ [(k : Int)]) := hide (by rw [HDN.out, if_pos hy0])
                  have hye : (y == 0) = true := beq_iff_eq.2 hy0
                  clear hy0
                  go_wp2_with (at_builtin; refine wpList_append_vals rfl (.tmp 108) (.tmp 110) 48 rfl Bz 3 (.int .i64 0) 1 8 Try.underlying48 int_info rfl (by omega) u14 d ((deadIds (mkL ns) k).map I) rfl (owns.own_keep HO9.out ((Kept.refl [] w9).alloc _) (by simp)) [] _ 1 1 ([(k : Int)].map I) rfl (by simp) (vals_one w9 [] _ _ (by simp)) (one_I k) (by simp only [maxLen]; omega) (by omega) (by have := HZ9.out; simp; omega) ?_; intro v1 wz hown1 hk1 hat1)
                  have HKZ := hide (kept_more HO9.out (Nat.le_of_eq HBz.out) (HKR9.out.alloc (.cells #[.int .i64 k] 3)) hk1)
                  have HOZ : Hid (wz.ownsRow Bz 3 1 v1 (deadIds (mkL ns) (k + 1)).length ((deadIds (mkL ns) (k + 1)).map I)) := hide (by
                    rw [HDY.out, List.map_append, List.length_append, HDD.out]
                    exact hown1)
                  clear hown1 hk1 hat1 cy9
                  go_wp2
                  go_roundw
                  case rel => exact ⟨k + 1, by omega, by go_num, HOZ, HKZ⟩
                  case measure => simp [intOf]; omega
                · have HDY : Hid (deadIds (mkL ns) (k + 1) = deadIds (mkL ns) k) := hide (by rw [HDN.out, if_neg hy0, List.append_nil])
                  have hye : (y == 0) = false := beq_eq_false_iff_ne.2 hy0
                  clear hy0
                  go_wp2
                  go_roundw
                  case rel => exact ⟨k + 1, by omega, by go_num, by rw [HDY.out, HDD.out]; exact HO9, HKR9⟩
                  case measure => simp [intOf]; omega
              · have hk8e : k = 8 := by omega
                rw [hk8e] at HO
                have hml : (mkL ns).length = 8 := by rw [mkL_len]; exact HNL.out
                have HML := hide hml
                have HT6 := hide (HT5.out.keep HKR.out)
                have HG6 := hide (HG5.out.kept HKR.out)
                have HK6 := hide (HK5.out.trans HKR.out (by simp))
                have hdl := dead_length (mkL ns) 8
                obtain ⟨d, hd⟩ : ∃ d, (deadIds (mkL ns) 8).length = d := ⟨_, rfl⟩
                have HDD := hide hd
                rw [hd] at HO hdl
                obtain ⟨Aw, cw, rfl, _, hvw⟩ := owns.own_read HO.out
                have HVW := hide (hvw [V] (by have h1 := HNz.out; simp; omega))
                have HFA := hide (free_after (mkL ns) (mkL_s ns))
                have HDA := hide (dead_after (mkL ns))
                rw [hml] at HFA
                clear hvw hd hml HO
                go_wp2_with fail
                refine (release_any t V 4 8 24 2 1 (mkL ns) _ HT6.out).mono ?_
                rintro e x1 ⟨A1, d1, rfl, hv1, ht, hk⟩
                rw [HML.out] at hv1 ⊢
                rw [HDD.out]
                have HV1 := hide (hv1 [] (by simp))
                have HVW1 := hide ((HVW.out.kept hk (by simp)).mono (S' := []) (by simp))
                have HT7 := hide ht
                have HG7 := hide (HG6.out.kept hk (by simpa using hpV.out))
                have HK7 := hide (HK6.out.trans hk (by simp; exact hVw.out))
                clear hv1 ht hk HT6 HG6 HK6 HVW
                go_wp2_with fail
                refine (pg.ints_any _ _ d d _ _ (deadIds (mkL ns) 8) (deadIds (mkL ns) 8) _ HDD.out HDD.out HV1.out HVW1.out (by omega)).mono ?_
                rintro e x2 ⟨rfl, hk⟩
                rw [decide_eq_true (rfl : deadIds (mkL ns) 8 = deadIds (mkL ns) 8)]
                have HT8 := hide (HT7.out.keep hk)
                have HG8 := hide (HG7.out.kept hk)
                have HK8 := hide (HK7.out.trans hk (by simp))
                clear hk HT7 HG7 HK7 HV1 HVW1
                go_wp2_with fail
                refine (free_any _ ((mkL ns).map Rw.free) (by rw [List.length_map, HML.out]; omega) _ (.inr ⟨t, V, 4, 8, 24, 2, 1, rfl, HT8.out⟩)).mono ?_
                rintro e x3 ⟨rfl, hk⟩
                rw [HFA.out, HDD.out]
                have HT9 := hide (HT8.out.keep hk)
                have HG9 := hide (HG8.out.kept hk)
                have HK9 := hide (HK8.out.trans hk (by simp))
                clear hk HT8 HG8 HK8
                go_wp2_with fail
                refine (release_any t V 4 8 24 2 1 ((mkL ns).map Rw.free) _ HT9.out).mono ?_
                rintro e x4 ⟨A4, d4, rfl, _, ht, hk⟩
                rw [HDA.out, show ([] : List Int).length = 0 from rfl]
                have HTA := hide ht
                have HGA := hide (HG9.out.kept hk (by simpa using hpV.out))
                have HKA := hide (HK9.out.trans hk (by simp; exact hVw.out))
                clear ht hk HT9 HG9 HK9
                go_wp2_with fail
                refine (seg_any p 4 8 24 2 1 0 _ HGA.out).mono ?_
                rintro e x5 ⟨rfl, hk⟩
                rw [show segAt 8 24 2 1 0 = 10 from rfl]
                have HTB := hide (HTA.out.keep hk)
                have HGB := hide (HGA.out.kept hk)
                have HKB := hide (HKA.out.trans hk (by simp))
                clear hk HTA HGA HKA
                go_wp2_with fail
                refine (add_any HTB.out 9 1 (by omega)).mono ?_
                rintro e x6 ⟨rfl, ht, hk⟩
                rw [decide_eq_false (show ¬ addIn 8 24 2 1 9 by unfold addIn; omega)]
                have HTC := hide ht
                have HGC := hide (HGB.out.kept hk (by simpa using hpV.out))
                have HKC := hide (HKB.out.trans hk (by simp; exact hVw.out))
                clear ht hk HTB HGB HKB
                go_wp2_with fail
                refine (sectors_at p 4 8 24 2 1 _ HGC.out).mono ?_
                rintro e x7 ⟨rfl, hk⟩
                rw [show (2 + 2 * 2 + 4 * 1 + 8 * 24 : Int) = 202 from rfl]
                have HTD := hide (HTC.out.keep hk)
                have HKD := hide (HKC.out.trans hk (by simp))
                clear hk HTC HGC HKC
                go_wp2_with fail
                refine (add_any HTD.out 202 1 (by omega)).mono ?_
                rintro e x8 ⟨rfl, ht, hk⟩
                rw [decide_eq_false (show ¬ addIn 8 24 2 1 202 by unfold addIn; omega)]
                have HKE := hide (HKD.out.trans hk (by simp; exact hVw.out))
                clear ht hk HTD HKD
                go_wp2_with fail
                refine (awake_any _).mono ?_
                rintro e x9 ⟨rfl, hk⟩
                have HKF := hide (HKE.out.trans hk (by simp))
                clear hk
                go_wp2
                go_ret
                exact ⟨rfl, HKF.out.below (by simp)⟩
  · have hl2 : (30 : Int) < len0 := by omega
    go_wp2_with fail
    refine (awake_any _).mono ?_
    rintro e wd ⟨rfl, hk⟩
    have HKF := hide (HK3.out.trans hk (by simp))
    clear hk
    go_wp2
    go_ret
    exact ⟨rfl, HKF.out.below (by simp)⟩

/-! ### the row's step, as the guide's skeleton has it -/
set_option maxRecDepth 100000 in
theorem lifted (os : Os) (started : os.Started) (H : Type) (enc : TypeId × Value → H) :
    ReturnsInHanded {} Try.checked os 5 .any (Rows.usageLivesSpec.pre6 enc Try.prog Try.f5 Rows.usageLivesRow.domain false) (Rows.usageLivesSpec.post enc Try.prog Try.f5 false true false false) := by
  refine returnsInHanded_of_change (C := Try.checked) own started (by kernel_rfl) Try.func5
    (ChangeSpec.witness6 (enc := enc) (C := Try.checked) false ⟨#[], #[.slice none 0 0, .int .i64 0], []⟩ 8 (by kernel_rfl) (by kernel_rfl) (by kernel_rfl) (by kernel_rfl)) ?_
  intro W base args ds gs before hval0 hW hcnd _
  have hval : ∀ (j : Nat) t v, Try.f5.params[j]? = some t → args[j]? = some v → Value.okWide Try.prog W .any base t v := hval0
  have hW' := hW
  obtain ⟨p, q, hA0, hV, rfl, hfz, hnd⟩ := hW
  have hA : DataW.TrodAll enc Try.prog W 0 (fun _ => true) true Try.f5.params.toList args.toList ds p := hA0
  rw [Try.params5] at hA hval
  obtain ⟨v0, vs0, d0, ds0, p0, q0, hargs, rfl, rfl, h0, r0⟩ := trodAll_cons hA
  obtain ⟨v1, vs1, d1, ds1, p1, q1, rfl, rfl, rfl, h1, r1⟩ := trodAll_cons r0
  obtain ⟨rfl, rfl, rfl⟩ := trodAll_nil r1
  obtain rfl : args = #[v0, v1] := by cases args; simp_all
  obtain ⟨rfl, rfl⟩ := trodVars_none hV
  obtain ⟨a0, len0, cap0, rfl⟩ := okWide_slice Try.underlying48 (hval 0 48 v0 rfl rfl)
  have k0 := h0
  have lt0 : ∀ x ∈ p0, x.block < W.heap.size := by obtain ⟨m, hm⟩ := k0; exact DataW.trod_lt m _ _ _ hm
  obtain ⟨z0, w0⟩ : ∃ zs, IsRow .i64 W a0 len0 cap0 zs := by
    obtain ⟨fuel, hf⟩ := h0
    rcases open_ints Try.underlying48 Try.underlying3 (by kernel_rfl) hf with ⟨hcs, _⟩ | ⟨x, l, c, zs, hcs, _, hl, hm, hz, _, hcell, hwz⟩
    · simp [Value.cells] at hcs
      obtain ⟨rfl, rfl, rfl⟩ := hcs
      exact ⟨[], .inl ⟨rfl, rfl, rfl, rfl⟩⟩
    · simp [Value.cells] at hcs
      obtain ⟨rfl, rfl, rfl⟩ := hcs
      exact ⟨zs, .inr ⟨_, rfl, hl, hm, by simpa using hz, hcell, hwz⟩⟩
  obtain ⟨a1, rfl, rfl, rfl, w1⟩ := open_int Try.underlying3 (hval 1 3 v1 rfl rfl) h1
  clear hA0 hval0
  refine (walk a0 len0 cap0 z0 a1 W w0 w1).mono fun e W' ⟨he, bel⟩ => ?_
  subst he
  exact ⟨_, rfl, _, _, _, [], _, [], hW', trodAll_mk1 (shut_bool Try.underlying4 _), (trodAll_cons_mk (Below.trod laidOut (by kernel_rfl) (of_decide_eq_true (by kernel_rfl)) k0 bel lt0) (trodAll_cons_mk (shut_int Try.underlying3 w1) trodAll_mk0)), rfl, bel.frame _, fun h => by cases h⟩

theorem over : Rows.usageLivesRow.holds Try.pinned (OpenSpec.ofChange Rows.usageLivesSpec) :=
  OpenClaim.holds_of_wide 5 Try.f5 rfl rfl rfl rfl rfl rfl rfl ⟨rfl, rfl, rfl, rfl, rfl⟩ rfl rfl rfl rfl rfl (by kernel_rfl) Try.func5 (by kernel_rfl)
    (of_decide_eq_true (by kernel_rfl)) (by unfold Func.isWrapper; first | (rw [if_pos (by decide +kernel)]; kernel_rfl) | (rw [if_neg (by decide +kernel)]; exact ⟨rfl, rfl⟩))
    (fun os started H enc _ => lifted os started H enc)

/-- The statement. -/
theorem proved : Rows.UsageLivesSaid := over
#print axioms proved
end Go.Proofs.Ytjcnndnipnkhoaa.usageLives

