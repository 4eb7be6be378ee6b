/-
  The given statement PagedPlaysSaid is proved: whatever the arguments are, the law returns true and leaves its input as it was. No conditions.
-/
import Derived.Test.YtfiddfanekblmaaShapes
import Derived.Test.YtfiddfanekblmaaSlabs
import Derived.Test.YtfiddfanekblmaaPagedPlaysAt
import Derived.Test.YtfiddfanekblmaaPagedAtInt
import Derived.Test.YtfiddfanekblmaaPagedAtStr
import Derived.Test.YtfiddfanekblmaaPagedDirtStr
import Derived.Test.YtfiddfanekblmaaOwns
import Derived.WalkKit
import Derived.ProofKit
import Derived.OpenShut
import Derived.ShutString
import Derived.ChangeOld
import Derived.Below
namespace Go.Proofs.Ytfiddfanekblmaa.pagedPlays
open Go.ChangeShapes Go.WideShapes Go.ChangeAt Go.RowKit
open Go.ChangeMaps (open_string shut_string)
open Go.Proofs.Ytfiddfanekblmaa.mem Go.Proofs.Ytfiddfanekblmaa.base Go.Proofs.Ytfiddfanekblmaa.pd Go.Proofs.Ytfiddfanekblmaa.pg Go.Proofs.Ytfiddfanekblmaa.owns
set_option linter.unusedVariables false

theorem own : ownKnob Try.prog.godebug = none := by kernel_rfl
theorem laidOut : laidOutB Try.prog = true := by kernel_rfl

/-- The array's cells. -/
def cellsI (l : List Int) : Array Value := (l.map I).toArray
theorem cellsI_set (l : List Int) (i : Nat) (x : Int) : (cellsI l).setIfInBounds i (.int .i64 x) = cellsI (l.set i x) := by
  unfold cellsI
  rw [List.setIfInBounds_toArray, List.map_set]
  rfl
def cellsB (l : List Bool) : Array Value := (bv l).toArray
theorem cellsB_set (l : List Bool) (i : Nat) (x : Bool) : (cellsB l).setIfInBounds i (.bool x) = cellsB (l.set i x) := by
  unfold cellsB bv
  rw [List.setIfInBounds_toArray, List.map_set]

theorem cell_i {w : World} {g : Nat} {t : TypeId} {l : List Int} (h : Blk w g t (cellsI l)) {i : Nat} {x : Int} (hi : l[i]? = some x) : w.cell? ⟨g, i, none⟩ = some (.int .i64 x) := by
  rw [h.cell]
  unfold cellsI
  simp [hi, I]
theorem cell_b {w : World} {g : Nat} {t : TypeId} {l : List Bool} (h : Blk w g t (cellsB l)) {i : Nat} {x : Bool} (hi : l[i]? = some x) : w.cell? ⟨g, i, none⟩ = some (.bool x) := by
  rw [h.cell]
  unfold cellsB bv
  simp [hi]

theorem set_same (l : List Int) (r : Nat) (v : Int) (h : l[r]? = some v) : l.set r v = l := by
  apply List.ext_getElem?
  intro i
  rw [List.getElem?_set]
  split
  · rename_i e
    subst e
    split
    · exact h.symm
    · rename_i hn
      rw [List.getElem?_eq_none (by omega)]
  · rfl
/-- Numbers filled from the beginning. -/
def filled (n k : Nat) (v : Int) : List Int := List.replicate k v ++ List.replicate (n - k) 0
theorem filled_length (n k : Nat) (v : Int) (h : k ≤ n) : (filled n k v).length = n := by simp [filled]; omega
theorem filled_set (n k : Nat) (v : Int) (h : k < n) : (filled n k v).set k v = filled n (k + 1) v := by
  unfold filled
  rw [List.set_append, List.length_replicate, if_neg (by omega), Nat.sub_self, show n - k = (n - (k + 1)) + 1 by omega, List.replicate_succ, List.set_cons_zero, List.replicate_succ' (n := k), List.append_assoc]
  rfl
/-- Numbers laid over others. -/
def layI (ms : List Int) (b : Nat) (xs : List Int) : List Int := ms.take b ++ (xs ++ ms.drop (b + xs.length))
theorem layI_map (ms : List Int) (b : Nat) (xs : List Int) : lay (ms.map I) b (xs.map I) = (layI ms b xs).map I := by
  unfold lay layI
  rw [List.map_append, List.map_append, List.map_take, List.map_drop, List.length_map]
theorem layI_length (ms : List Int) (b : Nat) (xs : List Int) (h : b + xs.length ≤ ms.length) : (layI ms b xs).length = ms.length := by simp [layI]; omega

/-- All that stands: the numbers, the marks, the table. -/
structure St (w wx : World) (p V D per M T : Nat) (ms : List Int) (ds : List Bool) : Prop where
  m : Blk wx M 3 (cellsI ms)
  t : Blk wx T 4 (cellsB ds)
  P : Pint wx p V D per (ms.map I) ds
  k : Kept [] w wx
section
variable {w wx wy : World} {p V D per M T : Nat} {ms : List Int} {ds : List Bool}
theorem St.keep (h : St w wx p V D per M T ms ds) (k : Kept [] wx wy) : St w wy p V D per M T ms ds := ⟨k.blk h.m (by simp), k.blk h.t (by simp), h.P.keep k, h.k.trans k (by simp)⟩
theorem St.drewN (h : St w wx p V D per M T ms ds) (n : Nat) : St w (wx.drewN n) p V D per M T ms ds := h.keep ((Kept.refl [] wx).drewN n)
end

set_option maxRecDepth 100000 in
set_option maxHeartbeats 4000000 in
theorem walk (a0 a1 a2 : Int) (a3 : Option Addr) (len3 cap3 : Nat) (w : World) (w0 : (Lit.int .i64 a0).wf = true) (w1 : (Lit.int .i64 a1).wf = true) (w2 : (Lit.int .i64 a2).wf = true) (hacts : ∀ i, i < len3 → ∃ ad, a3 = some ad ∧ ActAt w (ad.add (i * 4))) :
    Calls Try.prog 3 #[.int .i64 a0, .int .i64 a1, .int .i64 a2, .slice a3 len3 cap3] w fun e w' => e = .returned (.bool true) ∧ Below w.heap.size w w' := by
  have ha := plays_long a0 a1 a2 a3 len3 cap3 w
  by_cases hl : 60 < len3
  · exact ha hl
  clear ha
  by_cases hb : (1 ≤ a0 ∧ a0 ≤ 65536) ∧ (1 ≤ a1 ∧ a1 ≤ 65536)
  case neg => exact plays_bad a0 a1 a2 a3 len3 cap3 w (by omega) hb
  obtain ⟨n, rfl⟩ := Int.eq_ofNat_of_zero_le (show 0 ≤ a0 by omega)
  obtain ⟨per, rfl⟩ := Int.eq_ofNat_of_zero_le (show 0 ≤ a1 by omega)
  by_cases hbig : 300 < n
  · exact plays_big n per a2 a3 len3 cap3 w (by omega) hbig (by omega) (by omega) (by omega)
  have hn1 : 1 ≤ n := by omega
  have hn2 : n ≤ 300 := by omega
  have hp1 : 1 ≤ per := by omega
  have hp2 : per ≤ 65536 := by omega
  have hl2 : len3 ≤ 60 := by omega
  obtain ⟨mm, hmm⟩ : ∃ mm, (n + per - 1) / per = mm := ⟨_, rfl⟩
  have hm2 : mm ≤ 300 := by
    rw [← hmm]
    refine Nat.le_trans (Nat.div_le_of_le_mul (n := n) ?_) hn2
    obtain ⟨a, rfl⟩ : ∃ a, n = a + 1 := ⟨n - 1, by omega⟩
    obtain ⟨b, rfl⟩ : ∃ b, per = b + 1 := ⟨per - 1, by omega⟩
    have : (b + 1) * (a + 1) = b * a + b + a + 1 := by rw [Nat.add_mul, Nat.mul_add]; omega
    have h5 : 0 ≤ b * a := Nat.zero_le _
    omega
  have HMM := hide hmm
  have HACT := hide hacts
  clear hmm hacts hb hbig hl w0 w1 w2
  have hmk1 : ∀ W : World, (Instr.makeSlice 29 (.int .i64 n) (.int .i64 n)).run Try.prog W = .ok (.slice (some ⟨W.heap.size, 0, none⟩) n n) (W.alloc (.cells (cellsI (filled n 0 a2)) 3)) := fun W => by
    rw [made_int n (by omega) W]
    simp [cellsI, filled, I]
  have hmk2 : ∀ W : World, (Instr.makeSlice 30 (.int .i64 mm) (.int .i64 mm)).run Try.prog W = .ok (.slice (some ⟨W.heap.size, 0, none⟩) mm mm) (W.alloc (.cells (cellsB (List.replicate mm false)) 4)) := fun W => made_marks mm (by omega) W
  go_enter Try.func3, Try.ntmps3
  go_wp2_with fail
  refine (new_int_at n per a2 _ n per mm rfl rfl hn1 (by omega) hp1 hp2 HMM.out.symm).mono ?_
  rintro e w1 ⟨p, V, D, rfl, hp, hV, hD, hP, hk⟩
  have HP := hide hP
  have HK := hide hk
  have HV := hide hV
  have HD := hide hD
  have HL : Hid (Calls Try.prog 10 #[.pointer (some ⟨p, 0, none⟩)] w1 fun e w' => e = .returned (.int .i64 n) ∧ w1 = w') := hide (by have := len_int hP; rwa [List.length_map, List.length_replicate] at this)
  have HG : Hid (Calls Try.prog 11 #[.pointer (some ⟨p, 0, none⟩)] w1 fun e w' => e = .returned (.int .i64 mm) ∧ w1 = w') := hide (by have := pages_int hP; rwa [List.length_replicate] at this)
  have HU : Hid (∀ W : World, Calls Try.prog 12 #[.int .i64 n, .int .i64 per] W fun e w' => e = .returned (.int .i64 mm) ∧ W = w') := hide (fun W => by have := up_any n per W hn1 (by omega) hp1 hp2; rwa [HMM.out] at this)
  have hmne : ((mm : Int) != (mm : Int)) = false := by simp
  have hnne : ((n : Int) != (n : Int)) = false := by simp
  clear hP hk hp hV hD
  go_wp2_with fail
  refine (within_yes n 1 65536 _ (by omega)).mono ?_
  rintro e w2 ⟨rfl, rfl⟩
  go_wp2_with fail
  refine (within_yes per 1 65536 _ (by omega)).mono ?_
  rintro e w2 ⟨rfl, rfl⟩
  go_wp2_with fail
  refine HL.out.mono ?_
  rintro e w2 ⟨rfl, rfl⟩
  go_wp2_with fail
  refine HG.out.mono ?_
  rintro e w2 ⟨rfl, rfl⟩
  go_wp2_with fail
  refine (HU.out _).mono ?_
  rintro e w2 ⟨rfl, rfl⟩
  clear HL HG hmne hnne
  have HMB : Hid (Blk (w1.alloc (.cells (cellsI (filled n 0 a2)) 3)) w1.heap.size 3 (cellsI (filled n 0 a2))) := hide (Blk.new _ _ _)
  have HP1 := hide (HP.out.keep ((Kept.refl [] w1).alloc (.cells (cellsI (filled n 0 a2)) 3)))
  have HK1 := hide (HK.out.alloc (.cells (cellsI (filled n 0 a2)) 3))
  have HMW : Hid (w.heap.size ≤ w1.heap.size) := hide HK.out.size
  have HLT : Hid (p < w1.heap.size ∧ V < w1.heap.size ∧ D < w1.heap.size) := hide ⟨HP.out.pl, HP.out.Vl, HP.out.Dl⟩
  clear HP HK
  go_wp2
  go_loopw [11] (fun i wr => ∃ k : Nat, k ≤ n ∧ i = .int .i64 k ∧ Hid (Blk wr w1.heap.size 3 (cellsI (filled n k a2))) ∧ Hid (Pint wr p V D per ((List.replicate n a2).map I) (List.replicate mm false)) ∧ Hid (Kept [] w wr)) (fun i wr => n - (intOf i).toNat)
  case atStart => exact ⟨0, Nat.zero_le _, rfl, HMB, HP1, HK1⟩
  case round =>
    obtain ⟨k, hk, rfl, HMB, HP, HK⟩ := hrel
    by_cases hlt : k < n
    · obtain ⟨o, ho⟩ : ∃ o, (filled n k a2)[k]? = some o := ⟨_, List.getElem?_eq_getElem (by rw [filled_length n k a2 hk]; exact hlt)⟩
      have cm := cell_i HMB.out ho
      have fm := HMB.out.frozen k
      have hk0 : (0 : Int) ≤ k := by omega
      have hk1 : (k : Int) < n := by omega
      have hkm : Kept [w1.heap.size] wr (wr.setCell ⟨w1.heap.size, k, none⟩ (.int .i64 a2)) := (Kept.refl _ wr).set_ (.inl (by simp)) k _
      have HMB2 : Hid (Blk (wr.setCell ⟨w1.heap.size, k, none⟩ (.int .i64 a2)) w1.heap.size 3 (cellsI (filled n (k + 1) a2))) := hide (by have := HMB.out.set_ k (.int .i64 a2); rwa [cellsI_set, filled_set n k a2 hlt] at this)
      have HP2 := hide (HP.out.kept hkm (by have := HLT.out; simp; omega) (by have := HLT.out; simp; omega) (by have := HLT.out; simp; omega))
      have HK2 : Hid (Kept [] w (wr.setCell ⟨w1.heap.size, k, none⟩ (.int .i64 a2))) := hide (HK.out.set_ (.inr HMW.out) k _)
      clear ho hkm
      go_wp2
      go_roundw
      case rel => exact ⟨k + 1, by omega, by go_num, HMB2, HP2, HK2⟩
      case measure => simp [intOf]; omega
    · obtain rfl : k = n := by omega
      generalize wr = w2 at *
      have HF : Hid (filled k k a2 = List.replicate k a2) := hide (by simp [filled])
      rw [HF.out] at HMB
      go_wp2_with fail
      refine (HU.out _).mono ?_
      rintro e w3 ⟨rfl, rfl⟩
      have HMB0 := hide (HMB.out.alloc (.cells (cellsB (List.replicate mm false)) 4))
      have HTB0 : Hid (Blk (w2.alloc (.cells (cellsB (List.replicate mm false)) 4)) w2.heap.size 4 (cellsB (List.replicate mm false))) := hide (Blk.new _ _ _)
      have HP0 := hide (HP.out.keep ((Kept.refl [] w2).alloc (.cells (cellsB (List.replicate mm false)) 4)))
      have HK0 := hide (HK.out.alloc (.cells (cellsB (List.replicate mm false)) 4))
      have HT0 : Hid (w1.heap.size < w2.heap.size) := hide HMB.out.lt
      have HN0 : Hid ((List.replicate k a2).length = k) := hide (by simp)
      have HND0 : Hid ((List.replicate mm false).length = mm) := hide (by simp)
      clear HMB HP HK HF HP1 HK1
      go_wp2
      go_loopw [12, 13] (fun d i wr => ∃ (j : Nat) (ms : List Int) (ds : List Bool) (T : Nat), j ≤ len3 ∧ i = .int .i64 j ∧ d = .slice (some ⟨T, 0, none⟩) mm mm ∧ Hid (ms.length = k) ∧ Hid (ds.length = mm) ∧ Hid (St w wr p V D per w1.heap.size T ms ds) ∧ Hid (w1.heap.size < T)) (fun _ i wr => len3 - (intOf i).toNat)
      case atStart => exact ⟨0, _, _, _, Nat.zero_le _, rfl, rfl, HN0, HND0, hide ⟨HMB0.out, HTB0.out, HP0.out, HK0.out⟩, HT0⟩
      case round =>
        obtain ⟨j, ms, ds, T, hj, rfl, rfl, HN, HND, HST, HT⟩ := hrel
        have HK := hide HST.out.k
        have HP := hide HST.out.P
        have HMB := hide HST.out.m
        clear HMB0 HTB0 HP0 HK0 HT0 HN0 HND0
        by_cases hlt : j < len3
        · obtain ⟨ad, rfl, kind, at_, v, LA, l, lc, c0, c1, c2, c3, hvl⟩ := HACT.out j hlt
          have d0 := HK.out.cell c0 (by simp)
          have d1 := HK.out.cell c1 (by simp)
          have d2 := HK.out.cell c2 (by simp)
          have d3 := HK.out.cell c3 (by simp)
          have HVL := hide (hvl.kept HK.out (by simp))
          have HVW := hide hvl
          clear c0 c1 c2 c3 hvl
          by_cases hbig : 300 < l.length
          · go_wp2_with fail
            refine (awake_any _).mono ?_
            rintro e w7 ⟨rfl, hk7⟩
            have HK7 := hide ((HK.out.alloc _).trans hk7 (by simp))
            clear hk7
            go_wp2
            go_ret
            exact ⟨rfl, HK7.out.below (by simp)⟩
          go_upto_block 4 with fail
          obtain ⟨G, hG⟩ : ∃ G, wr.heap.size = G := ⟨_, rfl⟩
          obtain ⟨wa, hwa⟩ : ∃ wa, wr.alloc (.cells #[.int .i64 kind, .int .i64 at_, .int .i64 v, .slice LA l.length lc] 32) = wa := ⟨_, rfl⟩
          have GA : Hid (Blk wa G 32 #[.int .i64 kind, .int .i64 at_, .int .i64 v, .slice LA l.length lc]) := hide (by rw [← hwa, ← hG]; exact Blk.new _ _ _)
          have hka : Kept [] wr wa := by rw [← hwa]; exact (Kept.refl [] wr).alloc _
          have HSa := hide (HST.out.keep hka)
          have HVLa := hide (HVL.out.kept hka (by simp))
          have HGP : Hid (p < G ∧ V < G ∧ D < G ∧ w1.heap.size < G ∧ T < G) := hide (by
            have h1 := HST.out.P.pl
            have h2 := HST.out.P.Vl
            have h3 := HST.out.P.Dl
            have h4 := HST.out.m.lt
            have h5 := HST.out.t.lt
            omega)
          have t0 : wa.cell? ⟨G, 0, none⟩ = some (.int .i64 kind) := GA.out.cell 0
          have t1 : wa.cell? ⟨G, 1, none⟩ = some (.int .i64 at_) := GA.out.cell 1
          have t2 : wa.cell? ⟨G, 2, none⟩ = some (.int .i64 v) := GA.out.cell 2
          have t3 : wa.cell? ⟨G, 3, none⟩ = some (.slice LA l.length lc) := GA.out.cell 3
          rw [hwa, hG]
          clear hwa hG hka d0 d1 d2 d3 HK HP HMB HST HVL
          go_cut [12] from 79 to 256 (fun d wx => ∃ (ms : List Int) (ds : List Bool) (T : Nat), d = .slice (some ⟨T, 0, none⟩) mm mm ∧ Hid (ms.length = k) ∧ Hid (ds.length = mm) ∧ Hid (St w wx p V D per w1.heap.size T ms ds) ∧ Hid (w1.heap.size < T))
          case first =>
            by_cases hk1 : kind = 1
            · as_aux_lemma =>
              subst hk1
              by_cases hneg : 0 ≤ at_
              · by_cases hov : at_ < k
                · obtain ⟨r, rfl⟩ := Int.eq_ofNat_of_zero_le hneg
                  have hrk : r < k := by omega
                  obtain ⟨o, ho⟩ : ∃ o, ms[r]? = some o := ⟨_, List.getElem?_eq_getElem (by rw [HN.out]; exact hrk)⟩
                  have HO := hide ho
                  obtain ⟨q, hq⟩ : ∃ q, r / per = q := ⟨_, rfl⟩
                  have hqm : q < mm := by
                    have := HSa.out.P.page (i := r) (by rw [List.length_map, HN.out]; exact hrk)
                    rw [HND.out] at this
                    omega
                  obtain ⟨tb, htb⟩ : ∃ tb, ds[q]? = some tb := ⟨_, List.getElem?_eq_getElem (by rw [HND.out]; exact hqm)⟩
                  have HTBC := hide htb
                  have qd : (r : Int).tdiv (per : Int) = (q : Int) := by rw [Int.tdiv_eq_ediv_of_nonneg (by omega), ← Int.natCast_ediv, hq]
                  have HQ := hide hq
                  have qv : IntKind.i64.wrap (q : Int) = q := by rw [IntKind.wrap_i64]; omega
                  have qn : ¬ (per : Int) = 0 := by omega
                  have hq0 : (0 : Int) ≤ q := by omega
                  have hq1 : (q : Int) < mm := by omega
                  clear ho hq htb
                  by_cases hov2 : o = v
                  · have hne : (o != v) = false := by rw [bne_eq_false_iff_eq]; exact hov2
                    have HOV := hide hov2
                    clear hov2
                    go_wp2_with fail
                    refine (set_int_at HSa.out.P r r rfl o v HO.out ds (if_pos HOV.out).symm).mono ?_
                    rintro e wb ⟨rfl, hPb, hkb⟩
                    rw [set_same ms r v (by rw [← HOV.out]; exact HO.out)] at hPb
                    have HSb : Hid (St w wb p V D per w1.heap.size T ms ds) := hide ⟨hkb.blk HSa.out.m (by have := HLT.out; simp; omega), hkb.blk HSa.out.t (by have := HLT.out; have := HT.out; simp; omega), hPb, kept_under HSa.out.k hkb (fun i hi => by
                      simp at hi
                      rcases hi with rfl | rfl
                      · exact HV.out
                      · exact HD.out)⟩
                    have GB := hkb.blk GA.out (by have := HGP.out; simp; omega)
                    have s1 : wb.cell? ⟨G, 1, none⟩ = some (.int .i64 r) := GB.cell 1
                    have s2 : wb.cell? ⟨G, 2, none⟩ = some (.int .i64 v) := GB.cell 2
                    have cm := cell_i HSb.out.m HO.out
                    clear hPb hkb GB
                    go_wp2
                    go_quiet (fail)
                    go_wp2_with fail
                    go_meet
                    case rel => exact ⟨ms, ds, T, rfl, HN, HND, hide (HSb.out.drewN _), HT⟩
                  · have hne : (o != v) = true := by rw [bne_iff_ne]; exact hov2
                    have HOV := hide hov2
                    clear hov2
                    go_wp2_with fail
                    refine (set_int_at HSa.out.P r r rfl o v HO.out (ds.set q true) (by rw [if_neg HOV.out, HQ.out])).mono ?_
                    rintro e wb ⟨rfl, hPb, hkb⟩
                    have HPb := hide hPb
                    have HMb := hide (hkb.blk HSa.out.m (by have := HLT.out; simp; omega))
                    have HTb := hide (hkb.blk HSa.out.t (by have := HLT.out; have := HT.out; simp; omega))
                    have HKb := hide (kept_under HSa.out.k hkb (fun i hi => by
                      simp at hi
                      rcases hi with rfl | rfl
                      · exact HV.out
                      · exact HD.out))
                    have GB := hide (hkb.blk GA.out (by have := HGP.out; simp; omega))
                    have s1 : wb.cell? ⟨G, 1, none⟩ = some (.int .i64 r) := GB.out.cell 1
                    have s2 : wb.cell? ⟨G, 2, none⟩ = some (.int .i64 v) := GB.out.cell 2
                    have cm := cell_i HMb.out HO.out
                    clear hPb hkb
                    go_wp2
                    go_quiet (fail)
                    have hkd : Kept [] wb (wb.drewN nq) := (Kept.refl [] wb).drewN nq
                    generalize wb.drewN nq = wd at *
                    have HPd := hide (HPb.out.keep hkd)
                    have HMd := hide (hkd.blk HMb.out (by simp))
                    have HTd := hide (hkd.blk HTb.out (by simp))
                    have HKd := hide (HKb.out.trans hkd (by simp))
                    have GD := hide (hkd.blk GB.out (by simp))
                    clear s1 s2 cm hkd HPb HMb HTb HKb GB
                    have s1 : wd.cell? ⟨G, 1, none⟩ = some (.int .i64 r) := GD.out.cell 1
                    have s2 : wd.cell? ⟨G, 2, none⟩ = some (.int .i64 v) := GD.out.cell 2
                    have cm := cell_i HMd.out HO.out
                    have fm := HMd.out.frozen r
                    obtain ⟨we, hwe⟩ : ∃ we, wd.setCell ⟨w1.heap.size, r, none⟩ (.int .i64 v) = we := ⟨_, rfl⟩
                    have hke : Kept [w1.heap.size] wd we := by rw [← hwe]; exact (Kept.refl _ wd).set_ (.inl (by simp)) r _
                    have HMe : Hid (Blk we w1.heap.size 3 (cellsI (ms.set r v))) := hide (by rw [← hwe]; have := HMd.out.set_ r (.int .i64 v); rwa [cellsI_set] at this)
                    have HTe := hide (hke.blk HTd.out (by have := HT.out; simp; omega))
                    have HPe := hide (HPd.out.kept hke (by have := HLT.out; simp; omega) (by have := HLT.out; simp; omega) (by have := HLT.out; simp; omega))
                    have HKe : Hid (Kept [] w we) := hide (by rw [← hwe]; exact HKd.out.set_ (.inr HMW.out) r _)
                    have GE := hide (hke.blk GD.out (by have := HGP.out; simp; omega))
                    have e1 : we.cell? ⟨G, 1, none⟩ = some (.int .i64 r) := GE.out.cell 1
                    have ct := cell_b HTe.out HTBC.out
                    have ft := HTe.out.frozen q
                    have hkf : Kept [T] we (we.setCell ⟨T, q, none⟩ (.bool true)) := (Kept.refl _ we).set_ (.inl (by simp)) q _
                    have HSf : Hid (St w (we.setCell ⟨T, q, none⟩ (.bool true)) p V D per w1.heap.size T (ms.set r v) (ds.set q true)) := hide ⟨hkf.blk HMe.out (by have := HT.out; simp; omega), by have := HTe.out.set_ q (.bool true); rwa [cellsB_set] at this, HPe.out.kept hkf (by have := HLT.out; have := HT.out; simp; omega) (by have := HLT.out; have := HT.out; simp; omega) (by have := HLT.out; have := HT.out; simp; omega), HKe.out.set_ (.inr (by have := HMW.out; have := HT.out; omega)) q _⟩
                    clear hke hkf
                    go_wp2_with fail
                    go_meet
                    case rel => exact ⟨ms.set r v, ds.set q true, T, rfl, hide (by rw [List.length_set]; exact HN.out), hide (by rw [List.length_set]; exact HND.out), HSf, HT⟩
                · skip
                  go_wp2_with fail
                  refine (set_int_no HSa.out.P at_ (by rw [List.length_map, HN.out]; omega) (.int .i64 v)).mono ?_
                  rintro e wb ⟨rfl, rfl⟩
                  go_wp2
                  go_quiet (fail)
                  go_wp2_with fail
                  go_meet
                  case rel => exact ⟨ms, ds, T, rfl, HN, HND, hide (HSa.out.drewN _), HT⟩
              · skip
                go_wp2_with fail
                refine (set_int_no HSa.out.P at_ (by rw [List.length_map, HN.out]; omega) (.int .i64 v)).mono ?_
                rintro e wb ⟨rfl, rfl⟩
                go_wp2
                go_quiet (fail)
                go_wp2_with fail
                go_meet
                case rel => exact ⟨ms, ds, T, rfl, HN, HND, hide (HSa.out.drewN _), HT⟩
            · skip
              have hb1 : (kind == 1) = false := beq_eq_false_iff_ne.2 hk1
              by_cases hk2 : kind = 2
              · as_aux_lemma =>
                clear hb1 hk1
                subst hk2
                by_cases hneg : 0 ≤ at_
                · by_cases hov : at_ < mm
                  · obtain ⟨r, rfl⟩ := Int.eq_ofNat_of_zero_le hneg
                    have hrm : r < mm := by omega
                    obtain ⟨b, hb⟩ : ∃ b, r * per = b := ⟨_, rfl⟩
                    have hbk := HSa.out.P.starts (k := r) (by rw [HND.out]; exact hrm)
                    rw [hb, List.length_map, HN.out] at hbk
                    have hb0 : (r : Int) * (per : Int) = (b : Int) := by rw [← Int.natCast_mul, hb]
                    have hb1 : ((r : Int) + 1) * (per : Int) = (b : Int) + (per : Int) := by rw [Int.add_mul, hb0, Int.one_mul]
                    have hbv : IntKind.i64.wrap (b : Int) = b := by rw [IntKind.wrap_i64]; omega
                    have hbp : IntKind.i64.wrap ((b : Int) + (per : Int)) = (b : Int) + (per : Int) := by rw [IntKind.wrap_i64]; omega
                    have hbne : ¬ (b = k) := by omega
                    have hbne2 : ¬ (k = b) := by omega
                    have HB0 := hide hb0
                    have HB1 := hide hb1
                    have HBB := hide hb
                    clear hb
                    by_cases hmn : k < b + per
                    · have hmI : (k : Int) < (b : Int) + (per : Int) := by omega
                      by_cases hlq0 : l.length = k - b
                      · have heq : ((l.length : Int) == (k : Int) - (b : Int)) = true := beq_iff_eq.2 (by omega)
                        have hlq : l.length = min (b + per) k - b := by omega
                        have hl1 : 1 ≤ l.length := by omega
                        have HLQ := hide hlq
                        have HM : Hid ((l.map I).length = Nat.min l.length (k - b)) := hide (by rw [List.length_map]; exact (Nat.min_eq_left (by omega)).symm)
                        have HPOS : Hid (0 < (l.map I).length) := hide (by rw [List.length_map]; omega)
                        have HFIT : Hid (b + (l.map I).length ≤ (ms.map I).length) := hide (by rw [List.length_map, List.length_map, HN.out]; omega)
                        clear hlq hlq0
                        go_wp2_with fail
                        refine (load_yes HSa.out.P r (by rw [HND.out]; omega) LA l.length lc b HBB.out (by rw [List.length_map, HN.out]; exact HLQ.out) (l.map I) (by rw [List.length_map]) HVLa.out (oneCell_I l)).mono ?_
                        rintro e wb ⟨rfl, hPb, hkb⟩
                        rw [layI_map] at hPb
                        have HPb := hide hPb
                        have HMb := hide (hkb.blk HSa.out.m (by have := HLT.out; simp; omega))
                        have HTb := hide (hkb.blk HSa.out.t (by have := HLT.out; have := HT.out; simp; omega))
                        have HKb := hide (kept_under HSa.out.k hkb (fun i hi => by
                          simp at hi
                          rcases hi with rfl | rfl
                          · exact HV.out
                          · exact HD.out))
                        have GB := hide (hkb.blk GA.out (by have := HGP.out; simp; omega))
                        have s1 : wb.cell? ⟨G, 1, none⟩ = some (.int .i64 r) := GB.out.cell 1
                        have s3 : wb.cell? ⟨G, 3, none⟩ = some (.slice LA l.length lc) := GB.out.cell 3
                        have HVb : Hid (Vals wb.drew [] LA (l.map I)) := hide ((HVW.out.kept HKb.out (by simp)).kept (Kept.refl [] wb).drew (by simp))
                        clear hPb hkb
                        have hbk2 : b ≤ k := by omega
                        have hbk3 : (b : Int) ≤ (k : Int) := by omega
                        have hbk4 : (0 : Int) ≤ (b : Int) := by omega
                        go_wp2
                        go_still_tail 8, (by kernel_rfl)
                        change wpList _ _ _ _ _ (World.drew wb)
                        refine wpList_copy_vals rfl 3 (.tmp 182) (.tmp 184) 29 29 rfl Try.underlying29 size_int w1.heap.size b (k - b) (k - b) l.length lc LA (by go_simp) (by go_simp) (l.map I) HM.out [] HVb.out (oneCell_I l) HPOS.out (ms.map I) (show Blk wb.drew w1.heap.size 3 (ms.map I).toArray from HMb.out) HFIT.out ?_
                        intro wd hkd hmd
                        rw [layI_map] at hmd
                        have hkd' : Kept [w1.heap.size] wb wd := ((Kept.refl _ wb).drew).trans hkd (by simp)
                        have HMd : Hid (Blk wd w1.heap.size 3 (cellsI (layI ms b l))) := hide hmd
                        have HTd := hide (hkd'.blk HTb.out (by have := HT.out; simp; omega))
                        have HPd := hide (HPb.out.kept hkd' (by have := HLT.out; simp; omega) (by have := HLT.out; simp; omega) (by have := HLT.out; simp; omega))
                        have HKd : Hid (Kept [] w wd) := hide (HKb.out.trans hkd' (fun i hi => .inr (by simp at hi; rw [hi]; exact HMW.out)))
                        have GD := hide (hkd'.blk GB.out (by have := HGP.out; simp; omega))
                        have e1 : wd.cell? ⟨G, 1, none⟩ = some (.int .i64 r) := GD.out.cell 1
                        obtain ⟨tb, htb⟩ : ∃ tb, ds[r]? = some tb := ⟨_, List.getElem?_eq_getElem (by rw [HND.out]; omega)⟩
                        have ct := cell_b HTd.out htb
                        have ft := HTd.out.frozen r
                        have hkf : Kept [T] wd (wd.setCell ⟨T, r, none⟩ (.bool false)) := (Kept.refl _ wd).set_ (.inl (by simp)) r _
                        have HSf : Hid (St w (wd.setCell ⟨T, r, none⟩ (.bool false)) p V D per w1.heap.size T (layI ms b l) (ds.set r false)) := hide ⟨hkf.blk HMd.out (by have := HT.out; simp; omega), by have := HTd.out.set_ r (.bool false); rwa [cellsB_set] at this, HPd.out.kept hkf (by have := HLT.out; have := HT.out; simp; omega) (by have := HLT.out; have := HT.out; simp; omega) (by have := HLT.out; have := HT.out; simp; omega), HKd.out.set_ (.inr (by have := HMW.out; have := HT.out; omega)) r _⟩
                        have HNf : Hid ((layI ms b l).length = k) := hide (by rw [layI_length ms b l (by have := HFIT.out; rw [List.length_map, List.length_map] at this; exact this)]; exact HN.out)
                        clear hkd hmd hkd' hkf htb s1 s3
                        go_wp2_with fail
                        go_meet
                        case rel => exact ⟨layI ms b l, ds.set r false, T, rfl, HNf, hide (by rw [List.length_set]; exact HND.out), HSf, HT⟩
                      · have heq : ((l.length : Int) == (k : Int) - (b : Int)) = false := beq_eq_false_iff_ne.2 (by omega)
                        go_wp2_with fail
                        refine (load_no HSa.out.P r LA l.length lc (by
                          rintro ⟨h1, h2, h3⟩
                          rw [List.length_map, HN.out, HB1.out, HB0.out] at h3
                          omega)).mono ?_
                        rintro e wb ⟨rfl, hkb⟩
                        have HSb := hide (HSa.out.keep hkb)
                        clear hkb
                        go_wp2_with fail
                        go_meet
                        case rel => exact ⟨ms, ds, T, rfl, HN, HND, HSb, HT⟩
                    · have hmI : ¬ (k : Int) < (b : Int) + (per : Int) := by omega
                      by_cases hlq0 : l.length = per
                      · have heq : ((l.length : Int) == (b : Int) + (per : Int) - (b : Int)) = true := beq_iff_eq.2 (by omega)
                        have heq2 : ((l.length : Int) == (per : Int)) = true := beq_iff_eq.2 (by omega)
                        have hlq : l.length = min (b + per) k - b := by omega
                        have hl1 : 1 ≤ l.length := by omega
                        have HLQ := hide hlq
                        have HM : Hid ((l.map I).length = Nat.min l.length (k - b)) := hide (by rw [List.length_map]; exact (Nat.min_eq_left (by omega)).symm)
                        have HPOS : Hid (0 < (l.map I).length) := hide (by rw [List.length_map]; omega)
                        have HFIT : Hid (b + (l.map I).length ≤ (ms.map I).length) := hide (by rw [List.length_map, List.length_map, HN.out]; omega)
                        clear hlq hlq0
                        go_wp2_with fail
                        refine (load_yes HSa.out.P r (by rw [HND.out]; omega) LA l.length lc b HBB.out (by rw [List.length_map, HN.out]; exact HLQ.out) (l.map I) (by rw [List.length_map]) HVLa.out (oneCell_I l)).mono ?_
                        rintro e wb ⟨rfl, hPb, hkb⟩
                        rw [layI_map] at hPb
                        have HPb := hide hPb
                        have HMb := hide (hkb.blk HSa.out.m (by have := HLT.out; simp; omega))
                        have HTb := hide (hkb.blk HSa.out.t (by have := HLT.out; have := HT.out; simp; omega))
                        have HKb := hide (kept_under HSa.out.k hkb (fun i hi => by
                          simp at hi
                          rcases hi with rfl | rfl
                          · exact HV.out
                          · exact HD.out))
                        have GB := hide (hkb.blk GA.out (by have := HGP.out; simp; omega))
                        have s1 : wb.cell? ⟨G, 1, none⟩ = some (.int .i64 r) := GB.out.cell 1
                        have s3 : wb.cell? ⟨G, 3, none⟩ = some (.slice LA l.length lc) := GB.out.cell 3
                        have HVb : Hid (Vals wb.drew [] LA (l.map I)) := hide ((HVW.out.kept HKb.out (by simp)).kept (Kept.refl [] wb).drew (by simp))
                        clear hPb hkb
                        have hbk2 : b ≤ k := by omega
                        have hbk3 : (b : Int) ≤ (k : Int) := by omega
                        have hbk4 : (0 : Int) ≤ (b : Int) := by omega
                        go_wp2
                        go_still_tail 8, (by kernel_rfl)
                        change wpList _ _ _ _ _ (World.drew wb)
                        refine wpList_copy_vals rfl 3 (.tmp 182) (.tmp 184) 29 29 rfl Try.underlying29 size_int w1.heap.size b (k - b) (k - b) l.length lc LA (by go_simp) (by go_simp) (l.map I) HM.out [] HVb.out (oneCell_I l) HPOS.out (ms.map I) (show Blk wb.drew w1.heap.size 3 (ms.map I).toArray from HMb.out) HFIT.out ?_
                        intro wd hkd hmd
                        rw [layI_map] at hmd
                        have hkd' : Kept [w1.heap.size] wb wd := ((Kept.refl _ wb).drew).trans hkd (by simp)
                        have HMd : Hid (Blk wd w1.heap.size 3 (cellsI (layI ms b l))) := hide hmd
                        have HTd := hide (hkd'.blk HTb.out (by have := HT.out; simp; omega))
                        have HPd := hide (HPb.out.kept hkd' (by have := HLT.out; simp; omega) (by have := HLT.out; simp; omega) (by have := HLT.out; simp; omega))
                        have HKd : Hid (Kept [] w wd) := hide (HKb.out.trans hkd' (fun i hi => .inr (by simp at hi; rw [hi]; exact HMW.out)))
                        have GD := hide (hkd'.blk GB.out (by have := HGP.out; simp; omega))
                        have e1 : wd.cell? ⟨G, 1, none⟩ = some (.int .i64 r) := GD.out.cell 1
                        obtain ⟨tb, htb⟩ : ∃ tb, ds[r]? = some tb := ⟨_, List.getElem?_eq_getElem (by rw [HND.out]; omega)⟩
                        have ct := cell_b HTd.out htb
                        have ft := HTd.out.frozen r
                        have hkf : Kept [T] wd (wd.setCell ⟨T, r, none⟩ (.bool false)) := (Kept.refl _ wd).set_ (.inl (by simp)) r _
                        have HSf : Hid (St w (wd.setCell ⟨T, r, none⟩ (.bool false)) p V D per w1.heap.size T (layI ms b l) (ds.set r false)) := hide ⟨hkf.blk HMd.out (by have := HT.out; simp; omega), by have := HTd.out.set_ r (.bool false); rwa [cellsB_set] at this, HPd.out.kept hkf (by have := HLT.out; have := HT.out; simp; omega) (by have := HLT.out; have := HT.out; simp; omega) (by have := HLT.out; have := HT.out; simp; omega), HKd.out.set_ (.inr (by have := HMW.out; have := HT.out; omega)) r _⟩
                        have HNf : Hid ((layI ms b l).length = k) := hide (by rw [layI_length ms b l (by have := HFIT.out; rw [List.length_map, List.length_map] at this; exact this)]; exact HN.out)
                        clear hkd hmd hkd' hkf htb s1 s3
                        go_wp2_with fail
                        go_meet
                        case rel => exact ⟨layI ms b l, ds.set r false, T, rfl, HNf, hide (by rw [List.length_set]; exact HND.out), HSf, HT⟩
                      · have heq : ((l.length : Int) == (b : Int) + (per : Int) - (b : Int)) = false := beq_eq_false_iff_ne.2 (by omega)
                        have heq2 : ((l.length : Int) == (per : Int)) = false := beq_eq_false_iff_ne.2 (by omega)
                        go_wp2_with fail
                        refine (load_no HSa.out.P r LA l.length lc (by
                          rintro ⟨h1, h2, h3⟩
                          rw [List.length_map, HN.out, HB1.out, HB0.out] at h3
                          omega)).mono ?_
                        rintro e wb ⟨rfl, hkb⟩
                        have HSb := hide (HSa.out.keep hkb)
                        clear hkb
                        go_wp2_with fail
                        go_meet
                        case rel => exact ⟨ms, ds, T, rfl, HN, HND, HSb, HT⟩
                  · skip
                    go_wp2_with fail
                    refine (load_no HSa.out.P at_ LA l.length lc (by
                      rintro ⟨h1, h2, h3⟩
                      rw [HND.out] at h2
                      omega)).mono ?_
                    rintro e wb ⟨rfl, hkb⟩
                    have HSb := hide (HSa.out.keep hkb)
                    clear hkb
                    go_wp2_with fail
                    go_meet
                    case rel => exact ⟨ms, ds, T, rfl, HN, HND, HSb, HT⟩
                · skip
                  go_wp2_with fail
                  refine (load_no HSa.out.P at_ LA l.length lc (by
                    rintro ⟨h1, h2, h3⟩
                    omega)).mono ?_
                  rintro e wb ⟨rfl, hkb⟩
                  have HSb := hide (HSa.out.keep hkb)
                  clear hkb
                  go_wp2_with fail
                  go_meet
                  case rel => exact ⟨ms, ds, T, rfl, HN, HND, HSb, HT⟩
              have hb2 : (kind == 2) = false := beq_eq_false_iff_ne.2 hk2
              by_cases hk3 : kind = 3
              · clear hb1 hk1 hb2 hk2
                subst hk3
                go_wp2_with fail
                refine (clean_int HSa.out.P).mono ?_
                rintro e wb ⟨rfl, hPb, hkb⟩
                rw [HND.out] at hPb
                have HSb : Hid (St w (wb.alloc (.cells (cellsB (List.replicate mm false)) 4)) p V D per w1.heap.size wb.heap.size ms (List.replicate mm false)) := hide ⟨(hkb.blk HSa.out.m (by have := HLT.out; simp; omega)).alloc _, Blk.new _ _ _, hPb.keep ((Kept.refl [] wb).alloc _), (kept_under HSa.out.k hkb (fun i hi => by
                  simp at hi
                  rw [hi]
                  exact HD.out)).alloc _⟩
                have HTb : Hid (w1.heap.size < wb.heap.size) := hide (Nat.lt_of_lt_of_le HSa.out.m.lt hkb.size)
                clear hPb hkb
                go_wp2_with fail
                go_meet
                case rel => exact ⟨ms, _, wb.heap.size, rfl, HN, hide (by simp), HSb, HTb⟩
              have hb3 : (kind == 3) = false := beq_eq_false_iff_ne.2 hk3
              by_cases hk4 : kind = 4
              · clear hb1 hk1 hb2 hk2 hb3 hk3
                subst hk4
                by_cases hneg : 0 ≤ at_
                · by_cases hov : at_ < k
                  · obtain ⟨r, rfl⟩ := Int.eq_ofNat_of_zero_le hneg
                    have hrk : r < k := by omega
                    obtain ⟨o, ho⟩ : ∃ o, ms[r]? = some o := ⟨_, List.getElem?_eq_getElem (by rw [HN.out]; exact hrk)⟩
                    have HO := hide ho
                    have cm := cell_i HSa.out.m ho
                    have hoo : (o != o) = false := by simp
                    clear ho
                    go_wp2_with fail
                    refine (get_int_at HSa.out.P r r rfl o HO.out).mono ?_
                    rintro e wb ⟨rfl, rfl⟩
                    go_wp2_with fail
                    go_meet
                    case rel => exact ⟨ms, ds, T, rfl, HN, HND, HSa, HT⟩
                  · skip
                    go_wp2_with fail
                    refine (get_int_no HSa.out.P at_ (by rw [List.length_map, HN.out]; omega)).mono ?_
                    rintro e wb ⟨rfl, rfl⟩
                    go_wp2_with fail
                    go_meet
                    case rel => exact ⟨ms, ds, T, rfl, HN, HND, HSa, HT⟩
                · skip
                  go_wp2_with fail
                  refine (get_int_no HSa.out.P at_ (by rw [List.length_map, HN.out]; omega)).mono ?_
                  rintro e wb ⟨rfl, rfl⟩
                  go_wp2_with fail
                  go_meet
                  case rel => exact ⟨ms, ds, T, rfl, HN, HND, HSa, HT⟩
              have hb4 : (kind == 4) = false := beq_eq_false_iff_ne.2 hk4
              go_wp2_with fail
              go_meet
              case rel => exact ⟨ms, ds, T, rfl, HN, HND, HSa, HT⟩
          case rest => as_aux_lemma =>
            obtain ⟨ms, ds, T, hd, HN, HND, HST, HT⟩ := hcut
            subst hd
            clear HSa HVLa GA HGP t0 t1 t2 t3
            have HO0 : Hid (wc.ownsRow wc.heap.size 3 1 (.slice none 0 0) (markedInt ds 0).length ((markedInt ds 0).map I)) := hide (ownsRow_nil_ _ _ _)
            have HKC : Hid (Kept [] wc wc) := hide (Kept.refl _ _)
            go_wp2
            go_loopw [20, 21] (fun lv i wr => ∃ q : Nat, q ≤ mm ∧ i = .int .i64 q ∧ Hid (wr.ownsRow wc.heap.size 3 1 lv (markedInt ds q).length ((markedInt ds q).map I)) ∧ Hid (Kept [] wc wr)) (fun _ i wr => mm - (intOf i).toNat)
            case atStart => exact ⟨0, Nat.zero_le _, rfl, HO0, HKC⟩
            case round =>
              obtain ⟨q, hq, rfl, HL, HKL⟩ := hrel
              by_cases hqt : q < mm
              · obtain ⟨tb, htb⟩ : ∃ tb, ds[q]? = some tb := ⟨_, List.getElem?_eq_getElem (by rw [HND.out]; exact hqt)⟩
                have ct : wr.cell? ⟨T, q, none⟩ = some (.bool tb) := cell_b (HKL.out.blk HST.out.t (by simp)) htb
                have hk0 : (0 : Int) ≤ q := by omega
                have hk1 : (q : Int) < mm := by omega
                cases tb with
                | false =>
                  have HNX := hide (markedInt_no ds q htb)
                  clear htb
                  go_wp2
                  go_roundw
                  case rel => exact ⟨q + 1, by omega, by go_num, by rw [HNX.out]; exact HL, HKL⟩
                  case measure => simp [intOf]; omega
                | true =>
                  have HNX := hide (markedInt_yes ds q htb)
                  have hml := markedInt_length ds q
                  have HLA := hide (HL.out.alloc (.cells #[.int .i64 (q : Int)] 3))
                  have HVO : Hid (Vals (wr.alloc (.cells #[.int .i64 (q : Int)] 3)) [] (some ⟨wr.heap.size, 0, none⟩) ([(q : Int)].map I)) := hide (vals_one wr [] q _ (by simp))
                  have HSZ : Hid (wc.heap.size ≤ (wr.alloc (.cells #[.int .i64 (q : Int)] 3)).heap.size) := hide (by rw [World.size_alloc]; have := HKL.out.size; omega)
                  have hmx : (markedInt ds q).length + 1 ≤ maxLen := by simp only [maxLen]; omega
                  have HO1 := hide (oneCell_I [(q : Int)])
                  clear htb
                  go_wp2_with (
                    with_reducible refine wpList_append_vals (o := ⟨some 251, _, _, _, _, _⟩) ?_ (.tmp 248) (.tmp 250) 29 ?_ wc.heap.size 3 (.int .i64 0) 1 8 Try.underlying29 int_info ?_ (by omega) u20 (markedInt ds q).length ((markedInt ds q).map I) ?_ HLA.out [] (some ⟨wr.heap.size, 0, none⟩) 1 1 ([(q : Int)].map I) ?_ ?_ HVO.out HO1.out hmx (by omega) HSZ.out ?_
                    · rfl
                    · rfl
                    · rfl
                    · rfl
                    · rfl
                    · rfl
                    intro v1 w5 hown1 hk5 hat5
                    have HL5 : Hid (w5.ownsRow wc.heap.size 3 1 v1 (markedInt ds (q + 1)).length ((markedInt ds (q + 1)).map I)) := hide (by rw [HNX.out, List.length_append, List.map_append]; exact hown1)
                    have HK5 : Hid (Kept [] wc w5) := hide (kept_own HL.out (Nat.le_refl _) HKL.out _ hk5)
                    clear hown1 hk5 hat5)
                  go_roundw
                  case rel => exact ⟨q + 1, by omega, by go_num, HL5, HK5⟩
                  case measure => simp [intOf]; omega
              · obtain rfl : q = mm := by omega
                have hml := markedInt_length ds q
                obtain ⟨W0, hW0⟩ : ∃ W0, markedInt ds q = W0 := ⟨_, rfl⟩
                obtain ⟨nW, hnW⟩ : ∃ nW, W0.length = nW := ⟨_, rfl⟩
                have HD400 : Hid ((markedInt ds ds.length).take (400 : Int).toNat = W0) := hide (by rw [HND.out, hW0]; exact List.take_of_length_le (by rw [hnW]; rw [hW0, hnW] at hml; show nW ≤ 400; omega))
                rw [hW0, hnW] at HL
                rw [hW0, hnW] at hml
                have HNW := hide hnW
                obtain ⟨WA, wcap, hu, _, hwv⟩ := own_read HL.out
                subst hu
                have HWV := hide (hwv [] (by simp))
                have HSL := hide (HST.out.keep HKL.out)
                clear hwv hW0 hnW
                go_wp2_with fail
                refine (dirty_len p V D per ms ds 400 _ HSL.out.P W0 nW HD400.out HNW.out).mono ?_
                rintro e w5 ⟨A1, cc1, rfl, hv1, hk5⟩
                have HV1 := hide hv1
                have HW1 := hide (HWV.out.kept hk5 (by simp))
                have HS5 := hide (HSL.out.keep hk5)
                clear hv1 hk5
                go_wp2_with fail
                refine (ints_any A1 WA nW nW cc1 wcap W0 W0 _ HNW.out HNW.out HV1.out HW1.out (by omega)).mono ?_
                rintro e w6 ⟨rfl, hk6⟩
                rw [show decide (W0 = W0) = true by simp]
                have HS6 := hide (HS5.out.keep hk6)
                clear hk6
                go_wp2
                go_roundw
                case rel => exact ⟨j + 1, ms, ds, T, by omega, by go_num, rfl, HN, HND, HS6, HT⟩
                case measure => simp [intOf]; omega
        · obtain rfl : j = len3 := by omega
          have hall := all_any p V D per ms ds _ HP.out
          rw [HN.out] at hall
          have HALL := hide hall
          clear hall
          go_wp2_with fail
          refine HALL.out.mono ?_
          rintro e w4 ⟨yv, rfl, hyo, hk4⟩
          obtain ⟨YA, yc, rfl, _, hyv⟩ := own_read hyo
          have HY := hide (hyv [] (by simp))
          have HMV := hide ((Vals.blk (vs := ms.map I) 0 HMB.out (by simp) (fun i u hu => by rw [Nat.zero_add]; unfold cellsI; simpa using hu) : Vals wr [] (some ⟨w1.heap.size, 0, none⟩) (ms.map I)).kept hk4 (by simp))
          have HK4 := hide (HK.out.trans hk4 (by simp))
          clear hyo hyv hk4
          go_wp2_with fail
          refine (ints_any YA _ k k yc k ms ms _ HN.out HN.out HY.out HMV.out (by omega)).mono ?_
          rintro e w5 ⟨rfl, hk5⟩
          rw [show decide (ms = ms) = true by simp]
          have HK5 := hide (HK4.out.trans hk5 (by simp))
          clear hk5
          go_wp2_with fail
          refine (awake_any _).mono ?_
          rintro e w7 ⟨rfl, hk7⟩
          have HK7 := hide ((HK5.out.trans hk7 (by simp)).below (by simp))
          clear hk7
          go_wp2
          go_ret
          exact ⟨rfl, HK7.out⟩

/-! ### the row's step, as the guide's skeleton has it -/
set_option maxRecDepth 100000 in
theorem lifted (os : Os) (started : os.Started) (H : Type) (enc : TypeId × Value → H) :
    ReturnsInHanded {} Try.checked os 3 .any (Rows.pagedPlaysSpec.pre6 enc Try.prog Try.f3 Rows.pagedPlaysRow.domain false) (Rows.pagedPlaysSpec.post enc Try.prog Try.f3 false true false false) := by
  refine returnsInHanded_of_change (C := Try.checked) own started (by kernel_rfl) Try.func3
    (ChangeSpec.witness6 (enc := enc) (C := Try.checked) false ⟨#[], #[.int .i64 0, .int .i64 0, .int .i64 0, .slice none 0 0], []⟩ 8 (by kernel_rfl) (by kernel_rfl) (by kernel_rfl) (by kernel_rfl)) ?_
  intro W base args ds gs before hval0 hW hcnd _
  have hval : ∀ (j : Nat) t v, Try.f3.params[j]? = some t → args[j]? = some v → Value.okWide Try.prog W .any base t v := hval0
  have hW' := hW
  obtain ⟨p, q, hA0, hV, rfl, hfz, hnd⟩ := hW
  have hA : DataW.TrodAll enc Try.prog W 0 (fun _ => true) true Try.f3.params.toList args.toList ds p := hA0
  rw [Try.params3] at hA hval
  obtain ⟨v0, vs0, d0, ds0, p0, q0, hargs, rfl, rfl, h0, r0⟩ := trodAll_cons hA
  obtain ⟨v1, vs1, d1, ds1, p1, q1, rfl, rfl, rfl, h1, r1⟩ := trodAll_cons r0
  obtain ⟨v2, vs2, d2, ds2, p2, q2, rfl, rfl, rfl, h2, r2⟩ := trodAll_cons r1
  obtain ⟨v3, vs3, d3, ds3, p3, q3, rfl, rfl, rfl, h3, r3⟩ := trodAll_cons r2
  obtain ⟨rfl, rfl, rfl⟩ := trodAll_nil r3
  obtain rfl : args = #[v0, v1, v2, v3] := by cases args; simp_all
  obtain ⟨rfl, rfl⟩ := trodVars_none hV
  obtain ⟨a0, rfl, rfl, rfl, w0⟩ := open_int Try.underlying3 (hval 0 3 v0 rfl rfl) h0
  obtain ⟨a1, rfl, rfl, rfl, w1⟩ := open_int Try.underlying3 (hval 1 3 v1 rfl rfl) h1
  obtain ⟨a2, rfl, rfl, rfl, w2⟩ := open_int Try.underlying3 (hval 2 3 v2 rfl rfl) h2
  obtain ⟨a3, len3, cap3, rfl⟩ := okWide_slice Try.underlying22 (hval 3 22 v3 rfl rfl)
  have k3 := h3
  have lt3 : ∀ x ∈ p3, x.block < W.heap.size := by obtain ⟨m, hm⟩ := k3; exact DataW.trod_lt m _ _ _ hm
  have hacts : ∀ i, i < len3 → ∃ ad, a3 = some ad ∧ ActAt W (ad.add (i * 4)) := by
    obtain ⟨fuel, hf⟩ := h3
    exact acts_of hf
  clear hA0 hval0
  refine (walk a0 a1 a2 a3 len3 cap3 W w0 w1 w2 hacts).mono fun e W' ⟨he, bel⟩ => ?_
  subst he
  exact ⟨_, rfl, _, _, _, [], _, [], hW', trodAll_mk1 (shut_bool Try.underlying4 _), (trodAll_cons_mk (shut_int Try.underlying3 w0) (trodAll_cons_mk (shut_int Try.underlying3 w1) (trodAll_cons_mk (shut_int Try.underlying3 w2) (trodAll_cons_mk (Below.trod laidOut (by kernel_rfl) (of_decide_eq_true (by kernel_rfl)) k3 bel lt3) trodAll_mk0)))), rfl, bel.frame _, fun h => by cases h⟩

theorem over : Rows.pagedPlaysRow.holds Try.pinned (OpenSpec.ofChange Rows.pagedPlaysSpec) :=
  OpenClaim.holds_of_wide 3 Try.f3 rfl rfl rfl rfl rfl rfl rfl ⟨rfl, rfl, rfl, rfl, rfl⟩ rfl rfl rfl rfl rfl (by kernel_rfl) Try.func3 (by kernel_rfl)
    (of_decide_eq_true (by kernel_rfl)) (by unfold Func.isWrapper; first | (rw [if_pos (by decide +kernel)]; kernel_rfl) | (rw [if_neg (by decide +kernel)]; exact ⟨rfl, rfl⟩))
    (fun os started H enc _ => lifted os started H enc)

/-- The statement. -/
theorem proved : Rows.PagedPlaysSaid := over
#print axioms proved
end Go.Proofs.Ytfiddfanekblmaa.pagedPlays

