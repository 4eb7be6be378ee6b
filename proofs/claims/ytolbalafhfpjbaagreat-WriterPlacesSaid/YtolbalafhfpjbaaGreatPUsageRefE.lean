import Derived.Test.YtolbalafhfpjbaaGreatPUsageRefA
import Derived.Test.YtolbalafhfpjbaaGreatPUsageFrees
import Derived.Deep.CutRange
import Derived.Deep.RegionHeld3
namespace Go.Proofs.YtolbalafhfpjbaaGreat.us
set_option linter.unusedSimpArgs false
open Go.RowKit mem base geom
theorem made_lives (m : Nat) (hm : m ≤ 1000) (w : World) :
  (Instr.makeSlice 72 (.int .i64 (m : Int)) (.int .i64 (m : Int))).run Tryz.prog w = .ok (.slice (some ⟨w.heap.size, 0, none⟩) m m) (w.alloc (.cells (livesOf (List.replicate m Rw.zero)).toArray 3)) := by
 rw [show livesOf (List.replicate m Rw.zero) = List.replicate m (.int .i64 0) by simp [livesOf, Rw.live, Rw.zero], ← toList_madeCells_one]
 exact run_make_row' (P := Tryz.prog) 72 3 (.int .i64 0) 8 (by kernel_rfl) (by kernel_rfl) rfl .i64 .i64 m (by omega) (by omega) w
theorem rat_new {X : World} {b l r q : Int} {m U L p : Nat} (U' L' p' : Nat) (hU : Blk X U' 199 (usesOf (List.replicate m Rw.zero)).toArray) (hL : Blk X L' 3 (livesOf (List.replicate m Rw.zero)).toArray)
  (hp : Blk X p' 250 #[.int .i64 b, .int .i64 m, .int .i64 l, .slice (some ⟨U, 0, none⟩) m m, .slice (some ⟨L, 0, none⟩) m m]) (eU : U' = U) (eL : L' = L) (ep : p' = p) (h1 : p ≠ U) (h2 : p ≠ L) (h3 : U ≠ L) (H : Rf b m l r q) :
  RAt X.drew p U L b m l r q (List.replicate m Rw.zero) := by
 subst eU eL ep
 exact ⟨by rw [List.length_replicate]; exact hp, hU, hL, h1, h2, h3, H.ok, H.hr, H.hq, by simp, rep_good m⟩
theorem held_al {a W : World} {p1 p2 p3 : Addr} {u1 u2 u3 : Value} (h : Kept [] a W ∧ W.cell? p1 = some u1 ∧ W.cell? p2 = some u2 ∧ W.cell? p3 = some u3) (o : Obj) : Kept [] a (W.alloc o) ∧ (W.alloc o).cell? p1 = some u1 ∧ (W.alloc o).cell? p2 = some u2 ∧ (W.alloc o).cell? p3 = some u3 :=
 ⟨h.1.alloc o, ((Kept.refl [] W).alloc o).cell h.2.1 (by simp), ((Kept.refl [] W).alloc o).cell h.2.2.1 (by simp), ((Kept.refl [] W).alloc o).cell h.2.2.2 (by simp)⟩
def RNew (w : World) (b s l r q : Int) (n : Nat) (us : List Rw) (e : Ending) (w' : World) : Prop :=
   (∃ p U L rs, e = .returned (.pointer (some ⟨p, 0, none⟩)) ∧ w.heap.size ≤ p ∧ w.heap.size ≤ U ∧ w.heap.size ≤ L ∧ RAt w' p U L b s l r q rs ∧ Kept [] w w' ∧
    ((n = 0 ∧ rs = List.replicate s.toNat Rw.zero) ∨ (0 < n ∧ (n : Int) = s ∧ allMay us ∧ rs = us))) ∨
   (0 < n ∧ ((n : Int) ≠ s ∨ ¬ allMay us) ∧ e = .returned (.pointer none) ∧ Kept [] w w')

set_option maxRecDepth 100000 in
set_option maxHeartbeats 2000000 in
theorem rnew_any (b s l r q : Int) (A : Option Addr) (n c : Nat) (us : List Rw) (w : World) (h : Rf b s l r q) (hv : Vals w [] A (usesOf us)) (hl : us.length = n) (hp : plain us) (hn9 : n ≤ 65536) :
  Calls Tryz.prog 96 #[.agg #[.int .i64 b, .int .i64 s, .int .i64 l], .slice A n c] w (RNew w b s l r q n us) := by
 obtain ⟨_, hs, _⟩ := h.ok
 have H := hide h
 have HV := hide hv
 have HL := hide hl
 have HP := hide hp
 have hst : ((s.toNat : Nat) : Int) = s := by omega
 obtain ⟨m, hm⟩ : ∃ m, s.toNat = m := ⟨_, rfl⟩
 rw [hm] at hst
 subst hst
 have HMN : Hid (((m : Int)).toNat = m) := hide (by simp)
 have hmk1 := fun w => made_uses m (by omega) w
 have hmk2 := fun w => made_lives m (by omega) w
 have hka := hide ((Kept.refl [] w).alloc (.cells #[.int .i64 b, .int .i64 m, .int .i64 l] 29))
 have hba : Blk (w.alloc (.cells #[.int .i64 b, .int .i64 m, .int .i64 l] 29)) w.heap.size 29 #[.int .i64 b, .int .i64 m, .int .i64 l] := Blk.new _ _ _
 obtain ⟨g, hg⟩ : ∃ g, w.heap.size = g := ⟨_, rfl⟩
 obtain ⟨w1, hw1⟩ : ∃ w1, w.alloc (.cells #[.int .i64 b, .int .i64 m, .int .i64 l] 29) = w1 := ⟨_, rfl⟩
 have hs1 : w1.heap.size = g + 1 := by rw [← hw1]; simp [hg]
 rw [hw1] at hka hba
 rw [hg] at hba
 have HG := hide hg
 have HBA := hide hba
 clear h hv hl hp hm
 go_enter Tryz.func96, Tryz.ntmps96
 go_wp2_with fail
 go_cut [5] from 7 to 15 (fun p5 wx => ∃ p U L : Nat, p5 = .pointer (some ⟨p, 0, none⟩) ∧ g < p ∧ g < U ∧ g < L ∧ Hid (RAt wx p U L b m l r q (List.replicate m Rw.zero)) ∧ Hid (Kept [] w1 wx))
 case first =>
  have c0 := HBA.out.cell 0
  have c1 := HBA.out.cell 1
  have c2 := HBA.out.cell 2
  go_region_held3 (fun W => Kept [] w1 W ∧ W.cell? ⟨g, 0, none⟩ = some (.int .i64 b) ∧ W.cell? ⟨g, 1, none⟩ = some (.int .i64 m) ∧ W.cell? ⟨g, 2, none⟩ = some (.int .i64 l)) (first | exact ⟨(Kept.refl [] w1).drew, c0, c1, c2⟩ | exact held_al (by assumption) _) (fail)
  all_goals
   go_wp2_with fail
   go_meet
  case rel => exact ⟨_, g + 1, g + 1 + 1, rfl, by omega, by omega, by omega, hide (rat_new _ _ _ (((Blk.new w1 _ _).alloc _).alloc _) (by have := (Blk.new (w1.alloc (.cells (usesOf (List.replicate m Rw.zero)).toArray 199)) 3 (livesOf (List.replicate m Rw.zero)).toArray).alloc (.cells #[.int .i64 b, .int .i64 m, .int .i64 l, .slice (some ⟨g + 1, 0, none⟩) m m, .slice (some ⟨g + 1 + 1, 0, none⟩) m m] 250); exact this) (Blk.new _ _ _) (by rw [hs1]) (by simp [hs1]) (by simp [hs1]) (by omega) (by omega) (by omega) H.out), hide (((((Kept.refl [] w1).alloc _).alloc _).alloc _).drew)⟩
  case rel => exact ⟨_, g + 1 + 1, g + 1, rfl, by omega, by omega, by omega, hide (rat_new _ _ _ (by have := (Blk.new (w1.alloc (.cells (livesOf (List.replicate m Rw.zero)).toArray 3)) 199 (usesOf (List.replicate m Rw.zero)).toArray).alloc (.cells #[.int .i64 b, .int .i64 m, .int .i64 l, .slice (some ⟨g + 1 + 1, 0, none⟩) m m, .slice (some ⟨g + 1, 0, none⟩) m m] 250); exact this) (((Blk.new w1 _ _).alloc _).alloc _) (Blk.new _ _ _) (by simp [hs1]) (by rw [hs1]) (by simp [hs1]) (by omega) (by omega) (by omega) H.out), hide (((((Kept.refl [] w1).alloc _).alloc _).alloc _).drew)⟩
 case rest =>
  obtain ⟨p, U, L, rfl, hpg, hUg, hLg, HT, HK⟩ := hcut
  obtain ⟨w2, hw2⟩ : ∃ w2, wc = w2 := ⟨_, rfl⟩
  subst hw2
  have HKW := hide (hka.out.trans HK.out (by simp))
  have hb2 := HK.out.blk HBA.out (by simp)
  have k1 : wc.cell? ⟨g, 1, none⟩ = some (.int .i64 m) := hb2.cell 1
  have hgw : w.heap.size = g := HG.out
  by_cases hn0 : n = 0
  ·subst hn0
   go_wp2
   go_ret
   exact .inl ⟨p, U, L, _, rfl, by omega, by omega, by omega, HT.out, HKW.out, .inl ⟨rfl, by rw [HMN.out]⟩⟩
  ·have hn1 : ((n : Int) == 0) = false := beq_eq_false_iff_ne.2 (by omega)
   by_cases hnm : n = m
   ·subst hnm
    have hne : ((n : Int) != n) = false := by simp
    clear hmk1 hmk2 hw1 hs1 hba hka hb2
    go_wp2
    go_loopw [6] (fun i wr => ∃ k : Nat, k ≤ n ∧ i = .int .i64 k ∧ Hid (RAt wr p U L b n l r q (us.take k ++ List.replicate (n - k) Rw.zero)) ∧ Hid (allMay (us.take k)) ∧ Hid (Kept [] w wr)) (fun i _ => n - (intOf i).toNat)
    case atStart => exact ⟨0, Nat.zero_le _, rfl, hide (by simpa using HT.out), hide (by simp [allMay]), HKW⟩
    case round =>
     obtain ⟨k, hk, rfl, HT2, HM2, HK2⟩ := hrel
     by_cases hlt : k < n
     ·obtain ⟨x, hx⟩ : ∃ x, us[k]? = some x := ⟨_, List.getElem?_eq_getElem (by rw [HL.out]; exact hlt)⟩
      obtain ⟨ad, rfl, _, c0, c1⟩ := uses_at (HV.out.kept HK2.out (by simp)) hx
      have HX := hide hx
      have hk0' : (0 : Int) ≤ k := by omega
      have hk1' : (k : Int) < (n : Int) := by omega
      by_cases h1 : 0 ≤ x.s ∧ x.s ≤ 2
      ·by_cases h2 : 0 ≤ x.t ∧ x.t ≤ 2147483647
       ·have hm : mayUse x.s x.t = true := (mayUse_iff _ _).2 ⟨h1, h2⟩
        have HE := hide (allMay_next HM2.out hx hm)
        have H1 := hide h1
        have H2 := hide h2
        have hz := part_at HL.out hlt
        have hzn := HP.out x (List.mem_of_getElem? hx)
        have ct := HT2.out.c1
        have hll : (us.take k ++ List.replicate (n - k) Rw.zero).length = n := by rw [List.length_append, take_len HL.out hk, List.length_replicate]; omega
        rw [hll] at ct
        obtain ⟨e0, e1⟩ := HT2.out.uses hz
        have f0 := HT2.out.use.frozen (k * 2)
        have f1 := HT2.out.use.frozen (k * 2 + 1)
        have hT3 := (HT2.out.keep (Kept.refl [] wr).drew).put (x := Rw.zero) (y := ⟨x.s, 0, 0⟩) 0 (by omega) hz ⟨h1, by simp, by simp⟩ x.s rfl rfl
        have hz2 : ((us.take k ++ List.replicate (n - k) Rw.zero).set k (⟨x.s, 0, 0⟩ : Rw))[k]? = some ⟨x.s, 0, 0⟩ := by rw [List.getElem?_set, if_pos rfl, if_pos (by omega)]
        have hT4 := hT3.put (x := ⟨x.s, 0, 0⟩) (y := x) 1 (by omega) hz2 ⟨h1, h2, by rw [hzn]; simp⟩ x.t rfl hzn
        rw [List.set_set, part_set HL.out hlt hx, Nat.add_zero] at hT4
        have HT4 := hide hT4
        have HK4 := hide (((HK2.out.drew).set_ (b := U) (.inr (by omega)) (k * 2) (.int .i64 x.s)).set_ (b := U) (.inr (by omega)) (k * 2 + 1) (.int .i64 x.t))
        clear hx h1 h2 hm hz hzn hll hT3 hz2 hT4
        go_wp2_with fail
        refine (within_yes x.s 0 2 _ H1.out).mono ?_
        rintro e w3 ⟨rfl, rfl⟩
        go_wp2_with fail
        refine (within_yes x.t 0 2147483647 _ H2.out).mono ?_
        rintro e w3 ⟨rfl, rfl⟩
        go_wp2
        go_still_tail 10, (by kernel_rfl)
        change wpList _ _ _ _ _ (World.drew wr)
        go_wp2
        go_roundw
        case rel => exact ⟨k + 1, by omega, by go_num, HT4, HE, HK4⟩
        case measure => simp [intOf]; omega
       ·have hm : mayUse x.s x.t = false := by
         rw [← Bool.not_eq_true, mayUse_iff]
         exact fun h => h2 h.2
        have HE := hide (allMay_not hx hm)
        have H1 := hide h1
        have H2 := hide h2
        clear hx h1 h2 hm
        go_wp2_with fail
        refine (within_yes x.s 0 2 _ H1.out).mono ?_
        rintro e w3 ⟨rfl, rfl⟩
        go_wp2_with fail
        refine (within_no x.t 0 2147483647 _ H2.out).mono ?_
        rintro e w3 ⟨rfl, rfl⟩
        go_wp2
        go_ret
        exact .inr ⟨by omega, .inr HE.out, rfl, HK2.out⟩
      ·have hm : mayUse x.s x.t = false := by
        rw [← Bool.not_eq_true, mayUse_iff]
        exact fun h => h1 h.1
       have HE := hide (allMay_not hx hm)
       have H1 := hide h1
       clear hx h1 hm
       go_wp2_with fail
       refine (within_no x.s 0 2 _ H1.out).mono ?_
       rintro e w3 ⟨rfl, rfl⟩
       go_wp2
       go_ret
       exact .inr ⟨by omega, .inr HE.out, rfl, HK2.out⟩
     ·obtain rfl : k = n := by omega
      have hfull : us.take k ++ List.replicate (k - k) Rw.zero = us := by rw [List.take_of_length_le (by rw [HL.out]; exact Nat.le_refl _)]; simp
      rw [hfull] at HT2
      rw [List.take_of_length_le (by rw [HL.out]; exact Nat.le_refl _)] at HM2
      clear hfull
      go_wp2
      go_ret
      exact .inl ⟨p, U, L, _, rfl, by omega, by omega, by omega, HT2.out, HK2.out, .inr ⟨by omega, rfl, HM2.out, rfl⟩⟩
   ·have hne : ((n : Int) != m) = true := bne_iff_ne.2 (by omega)
    have HNM : Hid ((n : Int) ≠ m) := hide (by omega)
    clear hnm
    go_wp2
    go_ret
    exact .inr ⟨by omega, .inl HNM.out, rfl, HKW.out⟩
end Go.Proofs.YtolbalafhfpjbaaGreat.us
