import Derived.Test.YtgifeilmidpkeaaGreatQWriterSpaceM
namespace Go.Proofs.YtgifeilmidpkeaaGreat.wr
set_option linter.unusedSimpArgs false
set_option linter.unusedVariables false
open Go.RowKit mem base disk owns geom
open sc (Ps Seal sealed Reads putk)
open us (Rw TAt RAt grabOf shutOf touchOf inState backOf IsT)
open item (It Items valsOf allMay)
open record (cell5 Rc)
theorem and7 (n : Int) : bits .and .i64 n 7 = n % 8 := by
 have h1 : (BitVec.ofInt 64 7).toNat = 2 ^ 3 - 1 := by decide
 have key : (BitVec.ofInt 64 n &&& BitVec.ofInt 64 7).toNat = (n % ((2 ^ 64 : Nat) : Int)).toNat % 2 ^ 3 := by
  rw [BitVec.toNat_and, BitVec.toNat_ofInt, h1, Nat.and_two_pow_sub_one_eq_mod]
 show IntKind.i64.wrap ((BitVec.ofInt 64 n &&& BitVec.ofInt 64 7).toNat : Nat) = n % 8
 rw [key, IntKind.wrap_i64]
 omega
def sPs : Ps := ⟨0, 0, 1, 0, 1⟩
def l5 (k : Nat) : List Int := (List.range k).map fun i : Nat => (i : Int) + 1
theorem l5_succ (k : Nat) : l5 (k + 1) = l5 k ++ [(k : Int) + 1] := by unfold l5; rw [List.range_succ, List.map_append]; rfl
theorem field_s (a b c d e : Int) (w : World) : (Instr.field 24 (.agg #[.int .i64 a, .int .i64 b, .int .i64 c, .int .i64 d, .int .i64 e]) 0).run Tryz.prog w = .ok (.int .i64 a) w := by kernel_rfl
theorem sp_start : sts (busyT 8 sPs (l5 5)) = sp5 := by decide
theorem spItem_nat : ∀ k : Nat, k < 8 → addOk ⟨1, (k : Int), 0, 0⟩ 64 ∧ (⟨1, (k : Int), 0, 0⟩ : It).loaded = true := by decide
theorem spItem_ok (y : Int) (hy : 0 ≤ y ∧ y ≤ 7) : addOk ⟨1, y, 0, 0⟩ 64 ∧ (⟨1, y, 0, 0⟩ : It).loaded = true := by
 obtain ⟨k, rfl⟩ := Int.eq_ofNat_of_zero_le hy.1
 exact spItem_nat k (by omega)
theorem Sp.mono {k a a' : Nat} {D : Dk} {T : List Rw} {p : Ps} {its : List It} (h : Sp k a D T p its) (ha : a ≤ a') : Sp k a' D T p its := ⟨h.seg, h.off, h.all, h.far, by have := h.acts; omega, by have := h.lsn; omega, h.sts⟩
set_option maxRecDepth 100000 in
set_option maxHeartbeats 8000000 in
theorem space_any (x n : Int) (w : World) : Calls Tryz.prog 10 #[.int .i64 x, .int .i64 n] w fun e w' => e = .returned (.bool true) ∧ Kept [] w w' := by
 go_enter Tryz.func10, Tryz.ntmps10
 go_wp2
 go_loopw [5, 6] (fun lv i wr => ∃ k : Nat, k ≤ 5 ∧ i = .int .i64 ((k : Int) + 1) ∧ Hid (wr.ownsRow w.heap.size 3 1 lv k ((l5 k).map I)) ∧ Hid (Kept [] w wr)) (fun _ i _ => 9 - (intOf i).toNat)
 case atStart => exact ⟨0, by omega, rfl, hide (World.ownsRow_nil _ _ _ _), hide (Kept.refl _ _)⟩
 case round =>
  obtain ⟨k, hk, rfl, HO, HK⟩ := hrel
  obtain ⟨A5, c5, rfl, h5, _, _, _⟩ := own_slice HO.out
  have e1 : decide ((k : Int) + 1 < 8) = true := decide_eq_true (by omega)
  by_cases hlt : k < 5
  ·have e2 : decide ((k : Int) < 5) = true := decide_eq_true (by omega)
   have HOA : Hid (∀ o : Obj, (wr.alloc o).ownsRow w.heap.size 3 1 (.slice A5 k c5) k ((l5 k).map I)) := hide (fun o => HO.out.alloc o)
   have hs := HK.out.size
   have hkw : IntKind.i64.wrap ((k : Int) + 1 + 1) = (k : Int) + 1 + 1 := IntWalk.i64_in _ (by omega)
   have HNX : Hid (∀ (v : Value) (w1 : World), w1.ownsRow w.heap.size 3 1 v (k + 1) ((l5 k).map I ++ [(k : Int) + 1].map I) → w1.ownsRow w.heap.size 3 1 v (k + 1) ((l5 (k + 1)).map I)) := hide (fun v w1 h => by
    rw [l5_succ, List.map_append]
    exact h)
   go_wp2_with (at_builtin; refine wpList_append_vals rfl (.tmp 27) (.tmp 29) 86 rfl w.heap.size 3 (.int .i64 0) 1 8 Tryz.underlying86 int_info rfl (by omega) (.slice A5 k c5) k ((l5 k).map I) rfl (HOA.out _) [] _ 1 1 ([(k : Int) + 1].map I) rfl (by simp) (base.vals_one _ [] _ _ (by simp)) (oneCell_I _) (by simp only [maxLen]; omega) (by omega) (by simp; omega) ?_; intro v1 w1 hown1 hk1 hat1)
   go_roundw
   case rel => exact ⟨k + 1, by omega, by go_num, hide (HNX.out _ _ hown1), hide (kept_own HO.out (Nat.le_refl _) HK.out _ hk1)⟩
   case measure => simp [intOf]; omega
  ·obtain rfl : k = 5 := by omega
   have e2 : decide (((5 : Nat) : Int) < 5) = false := by decide
   have HV := hide (show Vals wr [] A5 ((l5 5).map I) from by
    obtain ⟨_, _, h1, _, _, h2, _⟩ := own_slice HO.out
    cases h1
    exact h2 [] (by simp))
   clear HO h5 hk hlt
   go_wp2_with fail
   refine (small_any _).mono ?_
   rintro e w0 ⟨rfl, hk0⟩
   have HK0 := hide (HK.out.trans hk0 (by simp))
   have HV0 := hide (HV.out.kept hk0 (by simp))
   clear hk0 HV HK
   go_wp2_with fail
   refine (made_any 8 8 24 sPs A5 5 c5 (l5 5) _ (by unfold geom.Ok; omega) HV0.out rfl (by omega)).mono ?_
   rintro e w1 ⟨m, m2, z, zp, d, rd, g, tp, V, rt, U, L, F, G, n0, r, q, vp, xp0, rfl, hm, hn, hk1, hv⟩
   obtain ⟨hp, v, xx, rfl, rfl, hzv, hvx, hat, hrat⟩ := hv.resolve_right (fun hh => hh.1 (by decide))
   have hlw0 := Lwr.of_made hm hn hk1 hp (by decide) hzv hat
   obtain ⟨xp, hxp⟩ : ∃ xp : Option Addr, some ⟨xx, 0, none⟩ = xp := ⟨_, rfl⟩
   rw [hxp] at hlw0
   have HGB := hide (show 2 ≤ r ∧ r ≤ 4 ∧ 1 ≤ q ∧ q ≤ 5 from hm.geo.bounds)
   obtain ⟨D0, hD0⟩ : ∃ D0, Dk.new n0 = D0 := ⟨_, rfl⟩
   obtain ⟨T0, hT0⟩ : ∃ T0, busyT 8 sPs (l5 5) = T0 := ⟨_, rfl⟩
   rw [hD0, hT0] at hlw0
   have HSP := hide (show Sp 0 0 D0 T0 sPs [] from ⟨rfl, by decide, rfl, by decide, by rw [← hD0]; exact Nat.le_refl _, by decide, by rw [← hT0]; exact sp_start⟩)
   have HL0 := hide hlw0
   have HKW := hide (HK0.out.trans hk1 (by simp))
   clear hv hp hat hrat hn hxp hlw0 hm hk1 hD0 hT0 HV0 hzv hvx
   obtain ⟨pt0, pt2, pt6, pt8⟩ := HL0.out.ptr
   go_wp2_with fail
   refine (us.free_any (some ⟨tp, 0, none⟩) T0 (by rw [HSP.out.free.1]; omega) _ (.inr ⟨_, _, _, _, _, _, _, rfl, HL0.out.ws.tab⟩)).mono ?_
   rintro e w2 ⟨rfl, hk2⟩
   rw [HSP.out.free.2]
   have HL2 := hide (HL0.out.keep hk2)
   clear hk2 HL0 pt0 pt2 pt6 pt8
   have h22 : (([6, 7] : List Int).length : Int) = 2 := rfl
   rw [h22]
   clear h22
   go_wp2_with fail
   refine (round_any n 30 _ (by omega) (by omega)).mono ?_
   rintro e w3 ⟨rfl, rfl⟩
   obtain ⟨k0, hk0⟩ : ∃ k0, n % 30 = k0 := ⟨_, rfl⟩
   rw [hk0]
   clear hk0
   go_wp2
   go_loopw [10, 11, 12, 13, 14, 15, 16, 17] (fun i _ _ _ _ _ _ _ wr => ∃ k : Nat, k ≤ 60 ∧ i = .int .i64 k ∧ ∃ D T p its bl F A c H e, Hid (Lwr w0 wr zp v d g tp V rd rt xp 8 8 24 r q D T p its bl F A c H e) ∧ Hid (Sp k (2 * k) D T p its)) (fun i _ _ _ _ _ _ _ _ => 60 - (intOf i).toNat)
   case atStart => exact ⟨0, by omega, rfl, D0, T0, sPs, [], [], F, none, 0, none, 0, HL2, HSP⟩
   case round =>
    clear HL2 HSP
    obtain ⟨k, hk, rfl, D, T, p, its, bl, F, A, c, H, e, HLK, HSP⟩ := hrel
    have hk22 := HSP.out.le HLK.out.ws.pl
    have e1 : decide ((k : Int) < 60) = true := decide_eq_true (by omega)
    have hof : D.acts ≤ 1000 := by have := HSP.out.acts; omega
    have HLd := hide (HLK.out.keep ((Kept.refl [] wr).drew))
    obtain ⟨wd, hwd⟩ : ∃ wd, wr.drew = wd := ⟨_, rfl⟩
    rw [hwd] at HLd
    have HALL := hide (show ∀ W, Kept [] wd W → Kept [] wd W ∧ W.cell? ⟨zp, 0, none⟩ = some (.pointer (some ⟨d, 0, none⟩)) ∧ W.cell? ⟨zp, 2, none⟩ = some (.pointer (some ⟨g, 0, none⟩)) ∧ W.cell? ⟨zp, 6, none⟩ = some (.pointer (some ⟨tp, 0, none⟩)) ∧ W.cell? ⟨zp, 8, none⟩ = some (.pointer (some ⟨v, 0, none⟩)) from fun W k => ⟨k, (HLd.out.keep k).ptr⟩)
    have HPOS := hide (fun W (k : Kept [] wd W) => pos_any v d g tp _ _ _ _ p A H W (HLd.out.keep k).ws.at_)
    unfold Ps.val at HPOS
    clear HLK
    go_wp2
    go_cut [11, 12, 13] from 61 to 75 (fun aa xx nn wx => aa = .int .i64 D.acts ∧ nn = .int .i64 its.length ∧ ∃ pz, xx = .pointer (some ⟨pz, 0, none⟩) ∧ Hid (Blk wx pz 24 #[.int .i64 p.s, .int .i64 p.o, .int .i64 p.l, .int .i64 p.v, .int .i64 p.m]) ∧ Hid (Lwr w0 wx zp v d g tp V rd rt xp 8 8 24 r q D T p its bl F A c H e))
    case first =>
     refine wp_region_noPanic ?_
     refine wp_region_held_drew (S := fun W => Kept [] wd W ∧ W.cell? ⟨zp, 0, none⟩ = some (.pointer (some ⟨d, 0, none⟩)) ∧ W.cell? ⟨zp, 2, none⟩ = some (.pointer (some ⟨g, 0, none⟩)) ∧ W.cell? ⟨zp, 6, none⟩ = some (.pointer (some ⟨tp, 0, none⟩)) ∧ W.cell? ⟨zp, 8, none⟩ = some (.pointer (some ⟨v, 0, none⟩))) (by kernel_rfl) (by rw [hwd]; exact HALL.out _ (Kept.refl [] wd)) (fun hHeld => ?_)
     refine tK 0 61 rfl ?_
     try simp only [Act.put, pA, pB, pC]
     refine tK 1 62 rfl ?_
     try simp only [Act.put, pA, pB, pC]
     refine tK 2 63 rfl ?_
     try simp only [Act.put, pA, pB, pC]
     refine tK 3 64 rfl ?_
     try simp only [Act.put, pA, pB, pC]
     refine tK 5 66 rfl ?_
     try simp only [Act.put, pA, pB, pC]
     refine tK 6 67 rfl ?_
     try simp only [Act.put, pA, pB, pC]
     refine tK 7 68 rfl ?_
     try simp only [Act.put, pA, pB, pC]
     refine tK 8 69 rfl ?_
     try simp only [Act.put, pA, pB, pC]
     refine tK 10 71 rfl ?_
     try simp only [Act.put, pA, pB, pC]
     refine tK 11 72 rfl ?_
     try simp only [Act.put, pA, pB, pC]
     refine tK 12 73 rfl ?_
     try simp only [Act.put, pA, pB, pC]
     refine tK 13 74 rfl ?_
     try simp only [Act.put, pA, pB, pC]
     refine next_two (i := 4) (j := 15) (o := ⟨some 65, _, _, _, _, _⟩) (o' := ⟨some 12, _, _, _, _, _⟩) (by kernel_rfl) rfl (by rfl) rfl (by rfl) (fun K hK => ?_) (fun K hK => ?_)
     ·(try rw [hwd])
      (try rw [hwd] at hHeld)
      go_simp
      refine (acts_at d F D _ (HLd.out.keep hHeld.1).ws.vd).mono ?_
      rintro e' wa ⟨rfl, rfl⟩
      refine hK _ _ (by exact hHeld) ?_
      have hHeld := hHeld
      clear hK K
      try simp only [Act.put, pA, pB, pC]
      refine next_two (i := 9) (j := 15) (o := ⟨some 70, _, _, _, _, _⟩) (o' := ⟨some 12, _, _, _, _, _⟩) (by kernel_rfl) rfl (by rfl) rfl (by rfl) (fun K hK => ?_) (fun K hK => ?_)
      ·(try rw [hwd])
       (try rw [hwd] at hHeld)
       go_simp
       refine (HPOS.out _ hHeld.1).mono ?_
       rintro e' w9 ⟨rfl, hk9⟩
       have HK9 := hide (hHeld.1.trans hk9 (by simp))
       (try have HBZ := hide (hk9.blk HBZ.out (by simp)))
       clear hk9
       refine hK _ _ (by exact HALL.out _ HK9.out) ?_
       have hHeld := HALL.out _ HK9.out
       clear hK K
       try simp only [Act.put, pA, pB, pC]
       refine next_two (i := 14) (j := 15) (o := ⟨some 75, _, _, _, _, _⟩) (o' := ⟨some 12, _, _, _, _, _⟩) (by kernel_rfl) rfl (by rfl) rfl (by rfl) (fun K hK => ?_) (fun K hK => ?_)
       ·(try rw [hwd])
        (try rw [hwd] at hHeld)
        go_simp
        refine (waiting_any v d g tp _ _ _ _ p A H _ (HLd.out.keep hHeld.1).ws.at_).mono ?_
        rintro e' wa ⟨rfl, rfl⟩
        refine hK _ _ (by exact hHeld) ?_
        have hHeld := hHeld
        clear hK K
        try simp only [Act.put, pA, pB, pC]
        refine hO 15 (some 12) rfl fun K hK => ?_
        (try rw [hwd])
        (try rw [hwd] at hHeld)
        go_simp
        (first | (obtain ⟨wz, hwz⟩ : ∃ wz, w9.alloc (.cells #[.int .i64 0, .int .i64 0, .int .i64 0, .int .i64 0, .int .i64 0] 24) = wz := ⟨_, rfl⟩; rw [hwz]; have HKZ := hide (show Kept [] wd wz from by rw [← hwz]; exact hHeld.1.alloc _); have hbz : Blk wz w9.heap.size 24 #[.int .i64 0, .int .i64 0, .int .i64 0, .int .i64 0, .int .i64 0] := by {rw [← hwz]; exact Blk.new w9 _ _}; obtain ⟨pz, hpz⟩ : ∃ pz, w9.heap.size = pz := ⟨_, rfl⟩; rw [hpz] at hbz ⊢; have HBZ := hide hbz; have HPZ := hide (show wd.heap.size ≤ pz from by rw [← hpz]; exact hHeld.1.size); clear hwz hbz hpz) | (obtain ⟨wz, hwz⟩ : ∃ wz, wd.alloc (.cells #[.int .i64 0, .int .i64 0, .int .i64 0, .int .i64 0, .int .i64 0] 24) = wz := ⟨_, rfl⟩; rw [hwz]; have HKZ := hide (show Kept [] wd wz from by rw [← hwz]; exact hHeld.1.alloc _); have hbz : Blk wz wd.heap.size 24 #[.int .i64 0, .int .i64 0, .int .i64 0, .int .i64 0, .int .i64 0] := by {rw [← hwz]; exact Blk.new wd _ _}; obtain ⟨pz, hpz⟩ : ∃ pz, wd.heap.size = pz := ⟨_, rfl⟩; rw [hpz] at hbz ⊢; have HBZ := hide hbz; have HPZ := hide (show wd.heap.size ≤ pz from by rw [← hpz]; exact hHeld.1.size); clear hwz hbz hpz))
        refine hK.out _ _ (by exact HALL.out _ HKZ.out) (fun hHeld => ?_)
        clear hK K
        try simp only [Act.put, pA, pB, pC]
        refine tK 16 11 rfl ?_
        try simp only [Act.put, pA, pB, pC]
        refine hO 17 none rfl fun K hK => ?_
        have fz := Blk.frozen HBZ.out
        obtain ⟨y0, y1, y2, y3, y4⟩ := cell5 HBZ.out
        go_simp
        (first | (obtain ⟨ws, hws⟩ : ∃ ws, (((((wz.setCell ⟨pz, 0, none⟩ (.int .i64 p.s)).setCell ⟨pz, 1, none⟩ (.int .i64 p.o)).setCell ⟨pz, 2, none⟩ (.int .i64 p.l)).setCell ⟨pz, 3, none⟩ (.int .i64 p.v)).setCell ⟨pz, 4, none⟩ (.int .i64 p.m)) = ws := ⟨_, rfl⟩; rw [hws]; have HBS := hide (show Blk ws pz 24 #[.int .i64 p.s, .int .i64 p.o, .int .i64 p.l, .int .i64 p.v, .int .i64 p.m] from by {rw [← hws]; exact Blk.set_ (Blk.set_ (Blk.set_ (Blk.set_ (Blk.set_ HBZ.out 0 _) 1 _) 2 _) 3 _) 4 _}); have HKS := hide (show Kept [] wd ws from by {rw [← hws]; exact (Kept.refl [] wd).trans ((((((hHeld.1.mono (S' := [pz]) (by simp)).set_ (b := pz) (.inl (by simp)) 0 _).set_ (b := pz) (.inl (by simp)) 1 _).set_ (b := pz) (.inl (by simp)) 2 _).set_ (b := pz) (.inl (by simp)) 3 _).set_ (b := pz) (.inl (by simp)) 4 _) (fun j hj => .inr (by simp at hj; subst hj; exact HPZ.out))}); clear hws) | (obtain ⟨ws, hws⟩ : ∃ ws, (((((w9.setCell ⟨pz, 0, none⟩ (.int .i64 p.s)).setCell ⟨pz, 1, none⟩ (.int .i64 p.o)).setCell ⟨pz, 2, none⟩ (.int .i64 p.l)).setCell ⟨pz, 3, none⟩ (.int .i64 p.v)).setCell ⟨pz, 4, none⟩ (.int .i64 p.m)) = ws := ⟨_, rfl⟩; rw [hws]; have HBS := hide (show Blk ws pz 24 #[.int .i64 p.s, .int .i64 p.o, .int .i64 p.l, .int .i64 p.v, .int .i64 p.m] from by {rw [← hws]; exact Blk.set_ (Blk.set_ (Blk.set_ (Blk.set_ (Blk.set_ HBZ.out 0 _) 1 _) 2 _) 3 _) 4 _}); have HKS := hide (show Kept [] wd ws from by {rw [← hws]; exact (Kept.refl [] wd).trans ((((((hHeld.1.mono (S' := [pz]) (by simp)).set_ (b := pz) (.inl (by simp)) 0 _).set_ (b := pz) (.inl (by simp)) 1 _).set_ (b := pz) (.inl (by simp)) 2 _).set_ (b := pz) (.inl (by simp)) 3 _).set_ (b := pz) (.inl (by simp)) 4 _) (fun j hj => .inr (by simp at hj; subst hj; exact HPZ.out))}); clear hws))
        clear fz y0 y1 y2 y3 y4
        refine hK.out _ _ (by exact HALL.out _ HKS.out) (fun hHeld => ?_)
        clear hK K
        try simp only [Act.put, pA, pB, pC]
        refine tK 18 13 rfl ?_
        try simp only [Act.put, pA, pB, pC]
        refine wpAnyH_done (by kernel_rfl) ?_ _
        refine NoPanic.normal ?_
        go_wp2_with fail
        go_meet
        exact ⟨rfl, rfl, pz, rfl, HBS, hide (HLd.out.keep HKS.out)⟩
       ·(try rw [hwd])
        (try rw [hwd] at hHeld)
        go_simp
        (first | (obtain ⟨wz, hwz⟩ : ∃ wz, w9.alloc (.cells #[.int .i64 0, .int .i64 0, .int .i64 0, .int .i64 0, .int .i64 0] 24) = wz := ⟨_, rfl⟩; rw [hwz]; have HKZ := hide (show Kept [] wd wz from by rw [← hwz]; exact hHeld.1.alloc _); have hbz : Blk wz w9.heap.size 24 #[.int .i64 0, .int .i64 0, .int .i64 0, .int .i64 0, .int .i64 0] := by {rw [← hwz]; exact Blk.new w9 _ _}; obtain ⟨pz, hpz⟩ : ∃ pz, w9.heap.size = pz := ⟨_, rfl⟩; rw [hpz] at hbz ⊢; have HBZ := hide hbz; have HPZ := hide (show wd.heap.size ≤ pz from by rw [← hpz]; exact hHeld.1.size); clear hwz hbz hpz) | (obtain ⟨wz, hwz⟩ : ∃ wz, wd.alloc (.cells #[.int .i64 0, .int .i64 0, .int .i64 0, .int .i64 0, .int .i64 0] 24) = wz := ⟨_, rfl⟩; rw [hwz]; have HKZ := hide (show Kept [] wd wz from by rw [← hwz]; exact hHeld.1.alloc _); have hbz : Blk wz wd.heap.size 24 #[.int .i64 0, .int .i64 0, .int .i64 0, .int .i64 0, .int .i64 0] := by {rw [← hwz]; exact Blk.new wd _ _}; obtain ⟨pz, hpz⟩ : ∃ pz, wd.heap.size = pz := ⟨_, rfl⟩; rw [hpz] at hbz ⊢; have HBZ := hide hbz; have HPZ := hide (show wd.heap.size ≤ pz from by rw [← hpz]; exact hHeld.1.size); clear hwz hbz hpz))
        refine hK _ _ (by exact HALL.out _ HKZ.out) ?_
        have hHeld := HALL.out _ HKZ.out
        clear hK K
        try simp only [Act.put, pA, pB, pC]
        refine hO 14 (some 75) rfl fun K hK => ?_
        (try rw [hwd])
        (try rw [hwd] at hHeld)
        go_simp
        refine (waiting_any v d g tp _ _ _ _ p A H _ (HLd.out.keep hHeld.1).ws.at_).mono ?_
        rintro e' wa ⟨rfl, rfl⟩
        refine hK.out _ _ (by exact hHeld) (fun hHeld => ?_)
        clear hK K
        try simp only [Act.put, pA, pB, pC]
        refine tK 16 11 rfl ?_
        try simp only [Act.put, pA, pB, pC]
        refine hO 17 none rfl fun K hK => ?_
        have fz := Blk.frozen HBZ.out
        obtain ⟨y0, y1, y2, y3, y4⟩ := cell5 HBZ.out
        go_simp
        (first | (obtain ⟨ws, hws⟩ : ∃ ws, (((((wz.setCell ⟨pz, 0, none⟩ (.int .i64 p.s)).setCell ⟨pz, 1, none⟩ (.int .i64 p.o)).setCell ⟨pz, 2, none⟩ (.int .i64 p.l)).setCell ⟨pz, 3, none⟩ (.int .i64 p.v)).setCell ⟨pz, 4, none⟩ (.int .i64 p.m)) = ws := ⟨_, rfl⟩; rw [hws]; have HBS := hide (show Blk ws pz 24 #[.int .i64 p.s, .int .i64 p.o, .int .i64 p.l, .int .i64 p.v, .int .i64 p.m] from by {rw [← hws]; exact Blk.set_ (Blk.set_ (Blk.set_ (Blk.set_ (Blk.set_ HBZ.out 0 _) 1 _) 2 _) 3 _) 4 _}); have HKS := hide (show Kept [] wd ws from by {rw [← hws]; exact (Kept.refl [] wd).trans ((((((hHeld.1.mono (S' := [pz]) (by simp)).set_ (b := pz) (.inl (by simp)) 0 _).set_ (b := pz) (.inl (by simp)) 1 _).set_ (b := pz) (.inl (by simp)) 2 _).set_ (b := pz) (.inl (by simp)) 3 _).set_ (b := pz) (.inl (by simp)) 4 _) (fun j hj => .inr (by simp at hj; subst hj; exact HPZ.out))}); clear hws) | (obtain ⟨ws, hws⟩ : ∃ ws, (((((w9.setCell ⟨pz, 0, none⟩ (.int .i64 p.s)).setCell ⟨pz, 1, none⟩ (.int .i64 p.o)).setCell ⟨pz, 2, none⟩ (.int .i64 p.l)).setCell ⟨pz, 3, none⟩ (.int .i64 p.v)).setCell ⟨pz, 4, none⟩ (.int .i64 p.m)) = ws := ⟨_, rfl⟩; rw [hws]; have HBS := hide (show Blk ws pz 24 #[.int .i64 p.s, .int .i64 p.o, .int .i64 p.l, .int .i64 p.v, .int .i64 p.m] from by {rw [← hws]; exact Blk.set_ (Blk.set_ (Blk.set_ (Blk.set_ (Blk.set_ HBZ.out 0 _) 1 _) 2 _) 3 _) 4 _}); have HKS := hide (show Kept [] wd ws from by {rw [← hws]; exact (Kept.refl [] wd).trans ((((((hHeld.1.mono (S' := [pz]) (by simp)).set_ (b := pz) (.inl (by simp)) 0 _).set_ (b := pz) (.inl (by simp)) 1 _).set_ (b := pz) (.inl (by simp)) 2 _).set_ (b := pz) (.inl (by simp)) 3 _).set_ (b := pz) (.inl (by simp)) 4 _) (fun j hj => .inr (by simp at hj; subst hj; exact HPZ.out))}); clear hws))
        clear fz y0 y1 y2 y3 y4
        refine hK.out _ _ (by exact HALL.out _ HKS.out) (fun hHeld => ?_)
        clear hK K
        try simp only [Act.put, pA, pB, pC]
        refine tK 18 13 rfl ?_
        try simp only [Act.put, pA, pB, pC]
        refine wpAnyH_done (by kernel_rfl) ?_ _
        refine NoPanic.normal ?_
        go_wp2_with fail
        go_meet
        exact ⟨rfl, rfl, pz, rfl, HBS, hide (HLd.out.keep HKS.out)⟩
      ·(try rw [hwd])
       (try rw [hwd] at hHeld)
       go_simp
       (first | (obtain ⟨wz, hwz⟩ : ∃ wz, w9.alloc (.cells #[.int .i64 0, .int .i64 0, .int .i64 0, .int .i64 0, .int .i64 0] 24) = wz := ⟨_, rfl⟩; rw [hwz]; have HKZ := hide (show Kept [] wd wz from by rw [← hwz]; exact hHeld.1.alloc _); have hbz : Blk wz w9.heap.size 24 #[.int .i64 0, .int .i64 0, .int .i64 0, .int .i64 0, .int .i64 0] := by {rw [← hwz]; exact Blk.new w9 _ _}; obtain ⟨pz, hpz⟩ : ∃ pz, w9.heap.size = pz := ⟨_, rfl⟩; rw [hpz] at hbz ⊢; have HBZ := hide hbz; have HPZ := hide (show wd.heap.size ≤ pz from by rw [← hpz]; exact hHeld.1.size); clear hwz hbz hpz) | (obtain ⟨wz, hwz⟩ : ∃ wz, wd.alloc (.cells #[.int .i64 0, .int .i64 0, .int .i64 0, .int .i64 0, .int .i64 0] 24) = wz := ⟨_, rfl⟩; rw [hwz]; have HKZ := hide (show Kept [] wd wz from by rw [← hwz]; exact hHeld.1.alloc _); have hbz : Blk wz wd.heap.size 24 #[.int .i64 0, .int .i64 0, .int .i64 0, .int .i64 0, .int .i64 0] := by {rw [← hwz]; exact Blk.new wd _ _}; obtain ⟨pz, hpz⟩ : ∃ pz, wd.heap.size = pz := ⟨_, rfl⟩; rw [hpz] at hbz ⊢; have HBZ := hide hbz; have HPZ := hide (show wd.heap.size ≤ pz from by rw [← hpz]; exact hHeld.1.size); clear hwz hbz hpz))
       refine hK _ _ (by exact HALL.out _ HKZ.out) ?_
       have hHeld := HALL.out _ HKZ.out
       clear hK K
       try simp only [Act.put, pA, pB, pC]
       refine hO 9 (some 70) rfl fun K hK => ?_
       (try rw [hwd])
       (try rw [hwd] at hHeld)
       go_simp
       refine (HPOS.out _ hHeld.1).mono ?_
       rintro e' w9 ⟨rfl, hk9⟩
       have HK9 := hide (hHeld.1.trans hk9 (by simp))
       (try have HBZ := hide (hk9.blk HBZ.out (by simp)))
       clear hk9
       refine hK.out _ _ (by exact HALL.out _ HK9.out) (fun hHeld => ?_)
       clear hK K
       try simp only [Act.put, pA, pB, pC]
       refine hO 14 (some 75) rfl fun K hK => ?_
       (try rw [hwd])
       (try rw [hwd] at hHeld)
       go_simp
       refine (waiting_any v d g tp _ _ _ _ p A H _ (HLd.out.keep hHeld.1).ws.at_).mono ?_
       rintro e' wa ⟨rfl, rfl⟩
       refine hK.out _ _ (by exact hHeld) (fun hHeld => ?_)
       clear hK K
       try simp only [Act.put, pA, pB, pC]
       refine tK 16 11 rfl ?_
       try simp only [Act.put, pA, pB, pC]
       refine hO 17 none rfl fun K hK => ?_
       have fz := Blk.frozen HBZ.out
       obtain ⟨y0, y1, y2, y3, y4⟩ := cell5 HBZ.out
       go_simp
       (first | (obtain ⟨ws, hws⟩ : ∃ ws, (((((wz.setCell ⟨pz, 0, none⟩ (.int .i64 p.s)).setCell ⟨pz, 1, none⟩ (.int .i64 p.o)).setCell ⟨pz, 2, none⟩ (.int .i64 p.l)).setCell ⟨pz, 3, none⟩ (.int .i64 p.v)).setCell ⟨pz, 4, none⟩ (.int .i64 p.m)) = ws := ⟨_, rfl⟩; rw [hws]; have HBS := hide (show Blk ws pz 24 #[.int .i64 p.s, .int .i64 p.o, .int .i64 p.l, .int .i64 p.v, .int .i64 p.m] from by {rw [← hws]; exact Blk.set_ (Blk.set_ (Blk.set_ (Blk.set_ (Blk.set_ HBZ.out 0 _) 1 _) 2 _) 3 _) 4 _}); have HKS := hide (show Kept [] wd ws from by {rw [← hws]; exact (Kept.refl [] wd).trans ((((((hHeld.1.mono (S' := [pz]) (by simp)).set_ (b := pz) (.inl (by simp)) 0 _).set_ (b := pz) (.inl (by simp)) 1 _).set_ (b := pz) (.inl (by simp)) 2 _).set_ (b := pz) (.inl (by simp)) 3 _).set_ (b := pz) (.inl (by simp)) 4 _) (fun j hj => .inr (by simp at hj; subst hj; exact HPZ.out))}); clear hws) | (obtain ⟨ws, hws⟩ : ∃ ws, (((((w9.setCell ⟨pz, 0, none⟩ (.int .i64 p.s)).setCell ⟨pz, 1, none⟩ (.int .i64 p.o)).setCell ⟨pz, 2, none⟩ (.int .i64 p.l)).setCell ⟨pz, 3, none⟩ (.int .i64 p.v)).setCell ⟨pz, 4, none⟩ (.int .i64 p.m)) = ws := ⟨_, rfl⟩; rw [hws]; have HBS := hide (show Blk ws pz 24 #[.int .i64 p.s, .int .i64 p.o, .int .i64 p.l, .int .i64 p.v, .int .i64 p.m] from by {rw [← hws]; exact Blk.set_ (Blk.set_ (Blk.set_ (Blk.set_ (Blk.set_ HBZ.out 0 _) 1 _) 2 _) 3 _) 4 _}); have HKS := hide (show Kept [] wd ws from by {rw [← hws]; exact (Kept.refl [] wd).trans ((((((hHeld.1.mono (S' := [pz]) (by simp)).set_ (b := pz) (.inl (by simp)) 0 _).set_ (b := pz) (.inl (by simp)) 1 _).set_ (b := pz) (.inl (by simp)) 2 _).set_ (b := pz) (.inl (by simp)) 3 _).set_ (b := pz) (.inl (by simp)) 4 _) (fun j hj => .inr (by simp at hj; subst hj; exact HPZ.out))}); clear hws))
       clear fz y0 y1 y2 y3 y4
       refine hK.out _ _ (by exact HALL.out _ HKS.out) (fun hHeld => ?_)
       clear hK K
       try simp only [Act.put, pA, pB, pC]
       refine tK 18 13 rfl ?_
       try simp only [Act.put, pA, pB, pC]
       refine wpAnyH_done (by kernel_rfl) ?_ _
       refine NoPanic.normal ?_
       go_wp2_with fail
       go_meet
       exact ⟨rfl, rfl, pz, rfl, HBS, hide (HLd.out.keep HKS.out)⟩
     ·(try rw [hwd])
      (try rw [hwd] at hHeld)
      go_simp
      (first | (obtain ⟨wz, hwz⟩ : ∃ wz, w9.alloc (.cells #[.int .i64 0, .int .i64 0, .int .i64 0, .int .i64 0, .int .i64 0] 24) = wz := ⟨_, rfl⟩; rw [hwz]; have HKZ := hide (show Kept [] wd wz from by rw [← hwz]; exact hHeld.1.alloc _); have hbz : Blk wz w9.heap.size 24 #[.int .i64 0, .int .i64 0, .int .i64 0, .int .i64 0, .int .i64 0] := by {rw [← hwz]; exact Blk.new w9 _ _}; obtain ⟨pz, hpz⟩ : ∃ pz, w9.heap.size = pz := ⟨_, rfl⟩; rw [hpz] at hbz ⊢; have HBZ := hide hbz; have HPZ := hide (show wd.heap.size ≤ pz from by rw [← hpz]; exact hHeld.1.size); clear hwz hbz hpz) | (obtain ⟨wz, hwz⟩ : ∃ wz, wd.alloc (.cells #[.int .i64 0, .int .i64 0, .int .i64 0, .int .i64 0, .int .i64 0] 24) = wz := ⟨_, rfl⟩; rw [hwz]; have HKZ := hide (show Kept [] wd wz from by rw [← hwz]; exact hHeld.1.alloc _); have hbz : Blk wz wd.heap.size 24 #[.int .i64 0, .int .i64 0, .int .i64 0, .int .i64 0, .int .i64 0] := by {rw [← hwz]; exact Blk.new wd _ _}; obtain ⟨pz, hpz⟩ : ∃ pz, wd.heap.size = pz := ⟨_, rfl⟩; rw [hpz] at hbz ⊢; have HBZ := hide hbz; have HPZ := hide (show wd.heap.size ≤ pz from by rw [← hpz]; exact hHeld.1.size); clear hwz hbz hpz))
      refine hK _ _ (by exact HALL.out _ HKZ.out) ?_
      have hHeld := HALL.out _ HKZ.out
      clear hK K
      try simp only [Act.put, pA, pB, pC]
      refine hO 4 (some 65) rfl fun K hK => ?_
      (try rw [hwd])
      (try rw [hwd] at hHeld)
      go_simp
      refine (acts_at d F D _ (HLd.out.keep hHeld.1).ws.vd).mono ?_
      rintro e' wa ⟨rfl, rfl⟩
      refine hK.out _ _ (by exact hHeld) (fun hHeld => ?_)
      clear hK K
      try simp only [Act.put, pA, pB, pC]
      refine hO 9 (some 70) rfl fun K hK => ?_
      (try rw [hwd])
      (try rw [hwd] at hHeld)
      go_simp
      refine (HPOS.out _ hHeld.1).mono ?_
      rintro e' w9 ⟨rfl, hk9⟩
      have HK9 := hide (hHeld.1.trans hk9 (by simp))
      (try have HBZ := hide (hk9.blk HBZ.out (by simp)))
      clear hk9
      refine hK.out _ _ (by exact HALL.out _ HK9.out) (fun hHeld => ?_)
      clear hK K
      try simp only [Act.put, pA, pB, pC]
      refine hO 14 (some 75) rfl fun K hK => ?_
      (try rw [hwd])
      (try rw [hwd] at hHeld)
      go_simp
      refine (waiting_any v d g tp _ _ _ _ p A H _ (HLd.out.keep hHeld.1).ws.at_).mono ?_
      rintro e' wa ⟨rfl, rfl⟩
      refine hK.out _ _ (by exact hHeld) (fun hHeld => ?_)
      clear hK K
      try simp only [Act.put, pA, pB, pC]
      refine tK 16 11 rfl ?_
      try simp only [Act.put, pA, pB, pC]
      refine hO 17 none rfl fun K hK => ?_
      have fz := Blk.frozen HBZ.out
      obtain ⟨y0, y1, y2, y3, y4⟩ := cell5 HBZ.out
      go_simp
      (first | (obtain ⟨ws, hws⟩ : ∃ ws, (((((wz.setCell ⟨pz, 0, none⟩ (.int .i64 p.s)).setCell ⟨pz, 1, none⟩ (.int .i64 p.o)).setCell ⟨pz, 2, none⟩ (.int .i64 p.l)).setCell ⟨pz, 3, none⟩ (.int .i64 p.v)).setCell ⟨pz, 4, none⟩ (.int .i64 p.m)) = ws := ⟨_, rfl⟩; rw [hws]; have HBS := hide (show Blk ws pz 24 #[.int .i64 p.s, .int .i64 p.o, .int .i64 p.l, .int .i64 p.v, .int .i64 p.m] from by {rw [← hws]; exact Blk.set_ (Blk.set_ (Blk.set_ (Blk.set_ (Blk.set_ HBZ.out 0 _) 1 _) 2 _) 3 _) 4 _}); have HKS := hide (show Kept [] wd ws from by {rw [← hws]; exact (Kept.refl [] wd).trans ((((((hHeld.1.mono (S' := [pz]) (by simp)).set_ (b := pz) (.inl (by simp)) 0 _).set_ (b := pz) (.inl (by simp)) 1 _).set_ (b := pz) (.inl (by simp)) 2 _).set_ (b := pz) (.inl (by simp)) 3 _).set_ (b := pz) (.inl (by simp)) 4 _) (fun j hj => .inr (by simp at hj; subst hj; exact HPZ.out))}); clear hws) | (obtain ⟨ws, hws⟩ : ∃ ws, (((((w9.setCell ⟨pz, 0, none⟩ (.int .i64 p.s)).setCell ⟨pz, 1, none⟩ (.int .i64 p.o)).setCell ⟨pz, 2, none⟩ (.int .i64 p.l)).setCell ⟨pz, 3, none⟩ (.int .i64 p.v)).setCell ⟨pz, 4, none⟩ (.int .i64 p.m)) = ws := ⟨_, rfl⟩; rw [hws]; have HBS := hide (show Blk ws pz 24 #[.int .i64 p.s, .int .i64 p.o, .int .i64 p.l, .int .i64 p.v, .int .i64 p.m] from by {rw [← hws]; exact Blk.set_ (Blk.set_ (Blk.set_ (Blk.set_ (Blk.set_ HBZ.out 0 _) 1 _) 2 _) 3 _) 4 _}); have HKS := hide (show Kept [] wd ws from by {rw [← hws]; exact (Kept.refl [] wd).trans ((((((hHeld.1.mono (S' := [pz]) (by simp)).set_ (b := pz) (.inl (by simp)) 0 _).set_ (b := pz) (.inl (by simp)) 1 _).set_ (b := pz) (.inl (by simp)) 2 _).set_ (b := pz) (.inl (by simp)) 3 _).set_ (b := pz) (.inl (by simp)) 4 _) (fun j hj => .inr (by simp at hj; subst hj; exact HPZ.out))}); clear hws))
      clear fz y0 y1 y2 y3 y4
      refine hK.out _ _ (by exact HALL.out _ HKS.out) (fun hHeld => ?_)
      clear hK K
      try simp only [Act.put, pA, pB, pC]
      refine tK 18 13 rfl ?_
      try simp only [Act.put, pA, pB, pC]
      refine wpAnyH_done (by kernel_rfl) ?_ _
      refine NoPanic.normal ?_
      go_wp2_with fail
      go_meet
      exact ⟨rfl, rfl, pz, rfl, HBS, hide (HLd.out.keep HKS.out)⟩
    case rest =>
     obtain ⟨rfl, rfl, pz, rfl, HBP, HLX⟩ := hcut
     clear HLd HALL HPOS hwd
     obtain ⟨yy, hyy⟩ : ∃ yy, bits .and .i64 x 7 = yy := ⟨_, rfl⟩
     have hy7 : 0 ≤ yy ∧ yy ≤ 7 := by rw [← hyy, and7]; omega
     have HOK := hide (spItem_ok yy hy7)
     have HLd := hide (HLX.out.keep ((Kept.refl [] wc).drew))
     have HBd := hide (((Kept.refl [] wc).drew).blk HBP.out (by simp))
     obtain ⟨wd, hwd⟩ : ∃ wd, wc.drew = wd := ⟨_, rfl⟩
     rw [hwd] at HLd HBd
     have HCd := hide (show True ∧ wd.cell? ⟨zp, 0, none⟩ = some (.pointer (some ⟨d, 0, none⟩)) ∧ wd.cell? ⟨zp, 2, none⟩ = some (.pointer (some ⟨g, 0, none⟩)) ∧ wd.cell? ⟨zp, 6, none⟩ = some (.pointer (some ⟨tp, 0, none⟩)) ∧ wd.cell? ⟨zp, 8, none⟩ = some (.pointer (some ⟨v, 0, none⟩)) from ⟨trivial, HLd.out.ptr⟩)
     clear hy7 HLX HBP
     go_wp2
     refine wp_region_noPanic ?_
     refine wp_region_held_drew (S := fun W => True ∧ W.cell? ⟨zp, 0, none⟩ = some (.pointer (some ⟨d, 0, none⟩)) ∧ W.cell? ⟨zp, 2, none⟩ = some (.pointer (some ⟨g, 0, none⟩)) ∧ W.cell? ⟨zp, 6, none⟩ = some (.pointer (some ⟨tp, 0, none⟩)) ∧ W.cell? ⟨zp, 8, none⟩ = some (.pointer (some ⟨v, 0, none⟩))) (by kernel_rfl) (by rw [hwd]; exact HCd.out) (fun hHeld => ?_)
     refine tK 0 77 rfl ?_
     try simp only [Act.put, pA, pB, pC]
     refine tK 1 78 rfl ?_
     try simp only [Act.put, pA, pB, pC]
     refine tK 2 79 rfl ?_
     try simp only [Act.put, pA, pB, pC]
     refine tK 3 80 rfl ?_
     try simp only [Act.put, pA, pB, pC]
     refine tK 4 81 rfl ?_
     try simp only [Act.put, pA, pB, pC]
     refine tK 5 82 rfl ?_
     try simp only [Act.put, pA, pB, pC]
     refine tK 6 83 rfl ?_
     try simp only [Act.put, pA, pB, pC]
     refine tK 7 84 rfl ?_
     try simp only [Act.put, pA, pB, pC]
     refine hO 8 (some 85) rfl fun K hK => ?_
     (try rw [hwd])
     go_simp
     refine (fill_any (k : Int) _).mono ?_
     rintro e' wa ⟨gf, rfl, hgf, harr, hka⟩
     have HLa := hide (HLd.out.keep hka)
     have HBa := hide (hka.blk HBd.out (by simp))
     have HVa := hide (show Vals wa (ours v V F A its.length c H bl.length e) (some ⟨gf, 0, none⟩) ((fillOf (k : Int)).map B) from harr.vals (fun hm => by have := HLd.out.lt _ hm; omega))
     clear harr hka hgf
     refine hK.out _ _ (by exact ⟨trivial, HLa.out.ptr⟩) (fun hHeld => ?_)
     clear hK K
     try simp only [Act.put, pA, pB, pC]
     refine hO 9 (some 86) rfl fun K hK => ?_
     go_simp
     refine (HLa.out.space ⟨1, yy, 0, 0⟩ (some ⟨gf, 0, none⟩) 64 (fillOf (k : Int)) HSP.out (by omega) HOK.out.1 HOK.out.2 (fillOf_length _) HVa.out).mono ?_
     rintro e' wb ⟨ya, er, rfl, b0, b2, b6, b8, hres⟩
     have HRES := hide hres
     clear hres
     refine hK.out _ _ (by exact ⟨trivial, b0, b2, b6, b8⟩) (fun hHeld => ?_)
     clear hK K
     try simp only [Act.put, pA, pB, pC]
     refine tK 10 76 rfl ?_
     try simp only [Act.put, pA, pB, pC]
     refine tK 11 87 rfl ?_
     try simp only [Act.put, pA, pB, pC]
     refine tK 12 88 rfl ?_
     try simp only [Act.put, pA, pB, pC]
     refine tK 13 14 rfl ?_
     try simp only [Act.put, pA, pB, pC]
     refine tK 14 15 rfl ?_
     try simp only [Act.put, pA, pB, pC]
     refine wpAnyH_done (by kernel_rfl) ?_ _
     refine NoPanic.normal ?_
     clear hHeld
     rcases HRES.out with ⟨rfl, D1, T1, p1, its1, bl1, F1, A1, c1, H1, e1, hl1, hsp1⟩ | ⟨rfl, hn1, hn2, hkb⟩
     ·have HL1 := hide hl1
      have HSP1 := hide hsp1
      have HLE := hide (show D1.acts ≤ 1000 ∧ p1.l ≤ 1000 from ⟨by have := hsp1.acts; omega, by have := hsp1.lsn; omega⟩)
      have hkw : IntKind.i64.wrap ((k : Int) + 1) = (k : Int) + 1 := IntWalk.i64_in _ (by omega)
      clear hl1 hsp1 HRES HLa HBa HVa HLd HBd HCd HSP hwd
      by_cases hkm : (k : Int) % 30 = k0
      ·go_wp2_with fail
       refine (HL1.out.emit (by have := HLE.out; omega) (by have := HLE.out; omega)).mono ?_
       rintro e' we ⟨rfl, F2, A2, c2, H2, e2, hl2, _⟩
       have HL2 := hide hl2
       have HSP2 := hide (HSP1.out.emit HL1.out.ws.pl ⟨by have := HGB.out; omega, by have := HGB.out; omega⟩ (by omega))
       clear hl2
       go_wp2
       go_roundw
       case rel => exact ⟨k + 1, by omega, by go_num, _, _, _, _, _, F2, A2, c2, H2, e2, HL2, HSP2⟩
       case measure => simp [intOf]; omega
      ·go_wp2
       go_roundw
       case rel => exact ⟨k + 1, by omega, by go_num, D1, T1, p1, its1, bl1, F1, A1, c1, H1, e1, HL1, hide (HSP1.out.mono (by omega))⟩
       case measure => simp [intOf]; omega
     ·have HLb := hide (HLa.out.keep hkb)
      have HBb := hide (hkb.blk HBa.out (by simp))
      have HTU := hide (HSP.out.turn HLa.out.ws.pl ⟨by have := HGB.out; omega, by have := HGB.out; omega⟩ (by omega) HOK.out.2 hn1 hn2)
      have HN12 := hide (show ¬ fit1 24 p its ⟨1, yy, 0, 0⟩ ∧ ¬ fit2 24 p its ⟨1, yy, 0, 0⟩ from ⟨hn1, hn2⟩)
      have HLE := hide (show D.acts ≤ 1000 ∧ p.l ≤ 1000 from ⟨by have := HSP.out.acts; omega, by have := HSP.out.lsn; omega⟩)
      have HFR := hide (HSP.out.free)
      have HALL := hide (show ∀ W, Kept [] wb W → Kept [] wb W ∧ (W.cell? ⟨zp, 0, none⟩ = some (.pointer (some ⟨d, 0, none⟩)) ∧ W.cell? ⟨zp, 2, none⟩ = some (.pointer (some ⟨g, 0, none⟩)) ∧ W.cell? ⟨zp, 6, none⟩ = some (.pointer (some ⟨tp, 0, none⟩)) ∧ W.cell? ⟨zp, 8, none⟩ = some (.pointer (some ⟨v, 0, none⟩))) ∧ (W.cell? ⟨pz, 0, none⟩ = some (.int .i64 p.s) ∧ W.cell? ⟨pz, 1, none⟩ = some (.int .i64 p.o) ∧ W.cell? ⟨pz, 2, none⟩ = some (.int .i64 p.l) ∧ W.cell? ⟨pz, 3, none⟩ = some (.int .i64 p.v) ∧ W.cell? ⟨pz, 4, none⟩ = some (.int .i64 p.m)) from fun W kk => ⟨kk, (HLb.out.keep kk).ptr, cell5 (kk.blk HBb.out (by simp))⟩)
      have HPOS := hide (fun W (kk : Kept [] wb W) => pos_any v d g tp _ _ _ _ p A H W (HLb.out.keep kk).ws.at_)
      unfold Ps.val at HPOS
      have hnp := fun W => wneq_pos p p W
      simp only [decide_true, Bool.not_true] at hnp
      clear hn1 hn2 hkb HRES HLa HBa HVa HLd HBd HCd hwd
      go_wp2
      refine wp_region_noPanic ?_
      refine wp_region_held_drew (S := fun W => Kept [] wb W ∧ (W.cell? ⟨zp, 0, none⟩ = some (.pointer (some ⟨d, 0, none⟩)) ∧ W.cell? ⟨zp, 2, none⟩ = some (.pointer (some ⟨g, 0, none⟩)) ∧ W.cell? ⟨zp, 6, none⟩ = some (.pointer (some ⟨tp, 0, none⟩)) ∧ W.cell? ⟨zp, 8, none⟩ = some (.pointer (some ⟨v, 0, none⟩))) ∧ (W.cell? ⟨pz, 0, none⟩ = some (.int .i64 p.s) ∧ W.cell? ⟨pz, 1, none⟩ = some (.int .i64 p.o) ∧ W.cell? ⟨pz, 2, none⟩ = some (.int .i64 p.l) ∧ W.cell? ⟨pz, 3, none⟩ = some (.int .i64 p.v) ∧ W.cell? ⟨pz, 4, none⟩ = some (.int .i64 p.m))) (by kernel_rfl) (by exact HALL.out _ ((Kept.refl [] wb).drew)) (fun hHeld => ?_)
      refine tK 0 91 rfl ?_
      try simp only [Act.put, pA, pB, pC]
      refine tK 1 92 rfl ?_
      try simp only [Act.put, pA, pB, pC]
      refine tK 2 93 rfl ?_
      try simp only [Act.put, pA, pB, pC]
      refine tK 3 94 rfl ?_
      try simp only [Act.put, pA, pB, pC]
      refine tK 5 96 rfl ?_
      try simp only [Act.put, pA, pB, pC]
      refine hO 4 (some 95) rfl fun K hK => ?_
      go_simp
      refine (acts_at d F D _ (HLb.out.keep hHeld.1).ws.vd).mono ?_
      rintro e' wa ⟨rfl, rfl⟩
      refine hK.out _ _ (by exact hHeld) (fun hHeld => ?_)
      clear hK K
      try simp only [Act.put, pA, pB, pC]
      refine tK 6 97 rfl ?_
      try simp only [Act.put, pA, pB, pC]
      refine tK 7 98 rfl ?_
      try simp only [Act.put, pA, pB, pC]
      refine tK 8 99 rfl ?_
      try simp only [Act.put, pA, pB, pC]
      refine tK 9 100 rfl ?_
      try simp only [Act.put, pA, pB, pC]
      refine tK 10 101 rfl ?_
      try simp only [Act.put, pA, pB, pC]
      refine tK 11 102 rfl ?_
      try simp only [Act.put, pA, pB, pC]
      refine tK 13 104 rfl ?_
      try simp only [Act.put, pA, pB, pC]
      refine hO 12 (some 103) rfl fun K hK => ?_
      go_simp
      refine (HPOS.out _ hHeld.1).mono ?_
      rintro e' w9 ⟨rfl, hk9⟩
      have HK9 := hide (hHeld.1.trans hk9 (by simp))
      clear hk9
      refine hK.out _ _ (by exact HALL.out _ HK9.out) (fun hHeld => ?_)
      clear hK K
      try simp only [Act.put, pA, pB, pC]
      refine tK 14 105 rfl ?_
      try simp only [Act.put, pA, pB, pC]
      refine tK 15 106 rfl ?_
      try simp only [Act.put, pA, pB, pC]
      refine tK 16 107 rfl ?_
      try simp only [Act.put, pA, pB, pC]
      refine tK 17 108 rfl ?_
      try simp only [Act.put, pA, pB, pC]
      refine tK 18 109 rfl ?_
      try simp only [Act.put, pA, pB, pC]
      refine tK 19 110 rfl ?_
      try simp only [Act.put, pA, pB, pC]
      refine tK 20 111 rfl ?_
      try simp only [Act.put, pA, pB, pC]
      refine tK 22 113 rfl ?_
      try simp only [Act.put, pA, pB, pC]
      refine hO 21 (some 112) rfl fun K hK => ?_
      go_simp
      refine (waiting_any v d g tp _ _ _ _ p A H _ (HLb.out.keep hHeld.1).ws.at_).mono ?_
      rintro e' wa ⟨rfl, rfl⟩
      refine hK.out _ _ (by exact hHeld) (fun hHeld => ?_)
      clear hK K
      try simp only [Act.put, pA, pB, pC]
      refine tK 23 114 rfl ?_
      try simp only [Act.put, pA, pB, pC]
      refine tK 24 115 rfl ?_
      try simp only [Act.put, pA, pB, pC]
      refine tK 25 116 rfl ?_
      try simp only [Act.put, pA, pB, pC]
      refine tK 26 117 rfl ?_
      try simp only [Act.put, pA, pB, pC]
      refine tK 27 118 rfl ?_
      try simp only [Act.put, pA, pB, pC]
      refine tK 28 119 rfl ?_
      try simp only [Act.put, pA, pB, pC]
      refine tK 29 120 rfl ?_
      try simp only [Act.put, pA, pB, pC]
      refine hO 30 (some 121) rfl fun K hK => ?_
      go_simp
      refine (us.free_any (some ⟨tp, 0, none⟩) T (by rw [HFR.out.1]; omega) _ (.inr ⟨_, _, _, _, _, _, _, rfl, (HLb.out.keep hHeld.1).ws.tab⟩)).mono ?_
      rintro e' wg ⟨rfl, hkg⟩
      rw [HFR.out.2, show (([6, 7] : List Int).length : Int) = 2 from rfl]
      have HKG := hide (hHeld.1.trans hkg (by simp))
      clear hkg
      refine hK.out _ _ (by exact HALL.out _ HKG.out) (fun hHeld => ?_)
      clear hK K
      try simp only [Act.put, pA, pB, pC]
      refine tK 31 122 rfl ?_
      try simp only [Act.put, pA, pB, pC]
      refine tK 32 123 rfl ?_
      try simp only [Act.put, pA, pB, pC]
      refine wpAnyH_done (by kernel_rfl) ?_ _
      refine NoPanic.normal ?_
      clear hHeld hnp HPOS HALL
      have HLc := hide (HLb.out.keep (HKG.out.trans ((Kept.refl [] wg).drew) (by simp)))
      obtain ⟨wd2, hwd2⟩ : ∃ wd2, wg.drew = wd2 := ⟨_, rfl⟩
      rw [hwd2] at HLc
      have HCc := hide (show True ∧ wd2.cell? ⟨zp, 0, none⟩ = some (.pointer (some ⟨d, 0, none⟩)) ∧ wd2.cell? ⟨zp, 2, none⟩ = some (.pointer (some ⟨g, 0, none⟩)) ∧ wd2.cell? ⟨zp, 6, none⟩ = some (.pointer (some ⟨tp, 0, none⟩)) ∧ wd2.cell? ⟨zp, 8, none⟩ = some (.pointer (some ⟨v, 0, none⟩)) from ⟨trivial, HLc.out.ptr⟩)
      clear HLb HBb HKG HK9 HSP
      go_wp2
      refine wp_region_noPanic ?_
      refine wp_region_held_drew (S := fun W => True ∧ W.cell? ⟨zp, 0, none⟩ = some (.pointer (some ⟨d, 0, none⟩)) ∧ W.cell? ⟨zp, 2, none⟩ = some (.pointer (some ⟨g, 0, none⟩)) ∧ W.cell? ⟨zp, 6, none⟩ = some (.pointer (some ⟨tp, 0, none⟩)) ∧ W.cell? ⟨zp, 8, none⟩ = some (.pointer (some ⟨v, 0, none⟩))) (by kernel_rfl) (by rw [hwd2]; exact HCc.out) (fun hHeld => ?_)
      refine tK 0 125 rfl ?_
      try simp only [Act.put, pA, pB, pC]
      refine tK 1 126 rfl ?_
      try simp only [Act.put, pA, pB, pC]
      refine tK 2 127 rfl ?_
      try simp only [Act.put, pA, pB, pC]
      refine tK 3 128 rfl ?_
      try simp only [Act.put, pA, pB, pC]
      refine tK 4 129 rfl ?_
      try simp only [Act.put, pA, pB, pC]
      refine tK 5 130 rfl ?_
      try simp only [Act.put, pA, pB, pC]
      refine tK 6 131 rfl ?_
      try simp only [Act.put, pA, pB, pC]
      refine tK 7 132 rfl ?_
      try simp only [Act.put, pA, pB, pC]
      refine hO 8 (some 133) rfl fun K hK => ?_
      (try rw [hwd2])
      go_simp
      refine (fill_any (k : Int) _).mono ?_
      rintro e' wa2 ⟨gf2, rfl, hgf, harr, hka⟩
      have HLd2 := hide (HLc.out.keep hka)
      have HVd2 := hide (show Vals wa2 (ours v V F A its.length c H bl.length e) (some ⟨gf2, 0, none⟩) ((fillOf (k : Int)).map B) from harr.vals (fun hm => by have := HLc.out.lt _ hm; omega))
      clear harr hka hgf
      refine hK.out _ _ (by exact ⟨trivial, HLd2.out.ptr⟩) (fun hHeld => ?_)
      clear hK K
      try simp only [Act.put, pA, pB, pC]
      refine hO 9 (some 134) rfl fun K hK => ?_
      go_simp
      refine (HLd2.out.add_turn ⟨1, yy, 0, 0⟩ (some ⟨gf2, 0, none⟩) 64 64 (fillOf (k : Int)) true 6 [7] HOK.out.1 (fillOf_length _) HN12.out.1 HN12.out.2 (by rw [HFR.out.2]; decide) HTU.out.1 (by decide) (by omega) HTU.out.2.1 (by have := HLE.out; omega) (by have := HLE.out; omega) (by omega) HVd2.out).mono ?_
      rintro e' wt ⟨⟨ya2, rfl⟩, F2, A2, c2, H2, e2, hl2, _⟩
      have HL2 := hide hl2
      clear hl2
      refine hK.out _ _ (by exact ⟨trivial, HL2.out.ptr⟩) (fun hHeld => ?_)
      clear hK K
      try simp only [Act.put, pA, pB, pC]
      refine tK 10 124 rfl ?_
      try simp only [Act.put, pA, pB, pC]
      refine tK 11 135 rfl ?_
      try simp only [Act.put, pA, pB, pC]
      refine tK 12 136 rfl ?_
      try simp only [Act.put, pA, pB, pC]
      refine tK 13 16 rfl ?_
      try simp only [Act.put, pA, pB, pC]
      refine tK 14 17 rfl ?_
      try simp only [Act.put, pA, pB, pC]
      refine wpAnyH_done (by kernel_rfl) ?_ _
      refine NoPanic.normal ?_
      have hT8 := HTU.out.2.2
      have hps : (turnP (allP p its bl) 6).s = 6 := rfl
      obtain ⟨TT, hTT⟩ : ∃ TT, shutOf (touchOf (grabOf (allT T p its) 6) (allP p its bl).s (allP p its bl).l) (allP p its bl).s = TT := ⟨_, rfl⟩
      obtain ⟨PP, hPP⟩ : ∃ PP, turnP (allP p its bl) 6 = PP := ⟨_, rfl⟩
      obtain ⟨DD, hDD⟩ : ∃ DD, turnD (allD D (2 + 2 * r + 4 * q + p.s * 24) p its bl) r q 24 (allP p its bl) 6 = DD := ⟨_, rfl⟩
      rw [hTT] at hT8 HL2
      rw [hPP] at hps HL2
      rw [hDD] at HL2
      have HT8 := hide hT8
      have HPS := hide hps
      clear hT8 hps hTT hPP hDD hHeld HLd2 HVd2 HLc HCc hwd2 HTU HFR
      obtain ⟨pt0, pt2, pt6, pt8⟩ := HL2.out.ptr
      go_wp2_with fail
      refine (us.free_any (some ⟨tp, 0, none⟩) TT (by rw [HT8.out.1]; omega) _ (.inr ⟨_, _, _, _, _, _, _, rfl, HL2.out.ws.tab⟩)).mono ?_
      rintro e' wh ⟨rfl, hkh⟩
      rw [HT8.out.1, HT8.out.2, show (([7] : List Int).length : Int) = 1 from rfl]
      have HL3 := hide (HL2.out.keep hkh)
      clear hkh pt0 pt2 pt6 pt8 HL2
      obtain ⟨pt0, pt2, pt6, pt8⟩ := HL3.out.ptr
      have hfo := fun W => field_s PP.s PP.o PP.l PP.v PP.m W
      rw [HPS.out] at hfo
      have HPO := hide (pos_any v d g tp _ _ _ _ PP _ _ wh HL3.out.ws.at_)
      unfold Ps.val at HPO
      rw [HPS.out] at HPO
      go_wp2_with fail
      refine HPO.out.mono ?_
      rintro e' wj ⟨rfl, hkj⟩
      have HL4 := hide (HL3.out.keep hkj)
      clear hkj HPO HL3 pt0 pt2 pt6 pt8
      obtain ⟨pt0, pt2, pt6, pt8⟩ := HL4.out.ptr
      go_wp2_with fail
      refine (waiting_any v d g tp _ _ _ _ PP _ _ _ HL4.out.ws.at_).mono ?_
      rintro e' wl ⟨rfl, rfl⟩
      rw [show ((([] : List It) ++ [(⟨1, yy, 0, 0⟩ : It)]).length : Int) = 1 from rfl]
      go_wp2_with fail
      refine (awake_any _).mono ?_
      rintro e' wm ⟨rfl, hkm⟩
      have HKM := hide ((HK0.out.trans HL4.out.kept (by simp)).trans hkm (by simp))
      clear hkm
      go_wp2
      go_ret
      exact ⟨rfl, HKM.out⟩
end Go.Proofs.YtgifeilmidpkeaaGreat.wr
