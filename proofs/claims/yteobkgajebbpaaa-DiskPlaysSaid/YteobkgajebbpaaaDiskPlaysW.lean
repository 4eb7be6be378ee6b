/- DiskPlays: the walk where the sectors are few enough. -/
import Derived.Test.YteobkgajebbpaaaDiskQuad
import Derived.Test.YteobkgajebbpaaaOpen
namespace Go.Proofs.Yteobkgajebbpaaa.diskPlays
open Go.RowKit Go.Proofs.Yteobkgajebbpaaa.mem Go.Proofs.Yteobkgajebbpaaa.base Go.Proofs.Yteobkgajebbpaaa.disk
set_option linter.unusedVariables false
set_option linter.unusedSimpArgs false

/-- An act lies there. -/
def ActAt (w : World) (ad : Addr) : Prop := ∃ (kind at_ xx : Int) (NA : Option Addr) (nums : List Int) (nc : Nat),
  w.cell? ad = some (.int .i64 kind) ∧ w.cell? ⟨ad.block, ad.off + 1, none⟩ = some (.int .i64 at_) ∧ w.cell? ⟨ad.block, ad.off + 2, none⟩ = some (.int .i64 xx) ∧ w.cell? ⟨ad.block, ad.off + 3, none⟩ = some (.slice NA nums.length nc) ∧ Vals w [] NA (nums.map I) ∧ at_ < 9223372036854775808

set_option maxRecDepth 100000 in
set_option maxHeartbeats 4000000 in
theorem walk_in (n : Nat) (L : Option Addr) (len c : Nat) (w : World) (hl : len ≤ 60) (h0 : 1 ≤ n) (h1 : n ≤ 300) (hacts : ∀ i, i < len → ∃ ad, L = some ad ∧ ActAt w (ad.add (i * 4))) :
    Calls Try.prog 3 #[.int .i64 n, .slice L len c] w fun e w' => e = .returned (.bool true) ∧ Below w.heap.size w w' := by
  have HA := hide hacts
  clear hacts
  go_enter Try.func3, Try.ntmps3
  go_wp2_with fail
  refine (mine_new (n : Int) n w _ rfl (Kept.refl _ _) h0 (by omega)).mono ?_
  rintro e w1 ⟨F, p, rfl, hm⟩
  have HM := hide hm
  clear hm
  go_wp2_with fail
  refine (rnew_ok (n : Int) n rfl _ h0 (by omega)).mono ?_
  rintro e w2 ⟨r, gs, gf, cs, sgs, rfl, hout, hk⟩
  have HP0 : Hid (∃ G, Pr w w2 F p (Dk.new n) G r (Dk.new n)) := hide (by
    obtain ⟨G, hrd, hG⟩ := rd_of_out hout h0 (by omega)
    have hs := HM.out.2.2.size
    exact ⟨G, HM.out.kept hk, hrd, fun x hx => by have := hG x hx; omega, fun x hx hm => by have := HM.out.1.lt x hx; have := hG x hm; omega⟩)
  obtain ⟨G, hp0⟩ := HP0.out
  have HP1 := hide hp0
  have HD0 : Hid ((Dk.new n).acts ≤ 0) := hide (Nat.le_refl 0)
  clear hout hk HM HP0 hp0
  generalize Dk.new n = D0 at *
  go_wp2
  go_loopw [5, 7, 8] (fun v5 v7 v8 wr => ∃ (F : List Nat) (p : Nat) (D : Dk) (G : List Nat) (r j : Nat), j ≤ len ∧ v5 = .pointer (some ⟨p, 0, none⟩) ∧ v7 = .pointer (some ⟨r, 0, none⟩) ∧ v8 = .int .i64 j ∧ Hid (D.acts ≤ j) ∧ Hid (Pr w wr F p D G r D)) (fun v5 v7 v8 wr => len - (intOf v8).toNat)
  case atStart => exact ⟨F, p, D0, G, r, 0, Nat.zero_le _, rfl, rfl, rfl, HD0, HP1⟩
  case round =>
    clear HP1 HD0
    obtain ⟨F, p, D, G, r, j, hj, rfl, rfl, rfl, HA0, HP⟩ := hrel
    by_cases hlt : j < len
    · obtain ⟨ad, rfl, kind, at_, xx, NA, nums, nc, c0, c1, c2, c3, hvn, hat63⟩ := HA.out j hlt
      have hd0 := HP.out.a.2.2.cell c0 (by simp)
      have hd1 := HP.out.a.2.2.cell c1 (by simp)
      have hd2 := HP.out.a.2.2.cell c2 (by simp)
      have hd3 := HP.out.a.2.2.cell c3 (by simp)
      have HVN := hide hvn
      have hact : D.acts < 1000000 := by have := HA0.out; omega
      clear c0 c1 c2 c3 hvn
      by_cases hX : 60 < nums.length
      · go_wp2_with fail
        refine (awake_any _).mono ?_
        rintro e w7 ⟨rfl, hk7⟩
        have HP7 := hide ((HP.out.kept ((Kept.refl [] wr).alloc _)).kept hk7)
        clear hk7
        go_wp2
        go_ret
        exact ⟨rfl, HP7.out.a.below⟩
      by_cases hk1 : kind = 1
      · subst hk1
        go_wp2_with fail
        generalize hwa : wr.alloc (.cells #[.int .i64 1, .int .i64 at_, .int .i64 xx, .slice NA nums.length nc] 32) = wa
        have GA : Hid (Blk wa wr.heap.size 32 #[.int .i64 1, .int .i64 at_, .int .i64 xx, .slice NA nums.length nc]) := hide (by subst hwa; exact Blk.new _ _ _)
        have HPA : Hid (Pr w wa F p D G r D) := hide (by subst hwa; exact HP.out.kept ((Kept.refl [] wr).alloc _))
        have HGF : Hid (wr.heap.size ∉ F) := hide (fun hm => by have := HP.out.a.1.lt _ hm; omega)
        have HGG : Hid (wr.heap.size ∉ G) := hide (fun hm => by have := HP.out.b.lt _ hm; omega)
        clear hwa
        generalize wr.heap.size = g at *
        have t1 : wa.cell? ⟨g, 1, none⟩ = some (.int .i64 at_) := GA.out.cell 1
        have t2 : wa.cell? ⟨g, 2, none⟩ = some (.int .i64 xx) := GA.out.cell 2
        have t3 : wa.cell? ⟨g, 3, none⟩ = some (.slice NA nums.length nc) := GA.out.cell 3
        obtain ⟨fx, hfx⟩ : ∃ fx, fillOf xx = fx := ⟨_, rfl⟩
        have HFX := hide hfx
        have HFL : Hid (fx.length = 64) := hide (by rw [← hfx]; exact fillOf_length _)
        clear hfx
        go_region_held3 (fun W => W.cell? ⟨g, 1, none⟩ = some (.int .i64 at_) ∧ W.cell? ⟨g, 2, none⟩ = some (.int .i64 xx))
          (first | go_keep | assumption)
          (first
            | (have hx := HP6.out; go_at_call 13; refine (pr_fill xx hx).mono ?_; rintro e w7 ⟨g7, rfl, hp7, _, hv7, hk7, _⟩; rw [HFX.out] at hv7; have G7 := hide (hk7.blk G6.out (by simp)); have s71 : w7.cell? ⟨g, 1, none⟩ = some (.int .i64 at_) := G7.out.cell 1; have s72 : w7.cell? ⟨g, 2, none⟩ = some (.int .i64 xx) := G7.out.cell 2; have HP7 := hide hp7; have HV7 := hide hv7; clear hp7 hv7 hk7 hx)
            | (go_at_call 13; refine (pr_fill xx (HPA.out.kept ((Kept.refl [] _).drew))).mono ?_; rintro e w5 ⟨g5, rfl, hp5, hv5, _, hk5, _⟩; rw [HFX.out] at hv5; have G5 := hide (hk5.blk (show Blk wa.drew _ _ _ from GA.out) (by simp)); have s51 : w5.cell? ⟨g, 1, none⟩ = some (.int .i64 at_) := G5.out.cell 1; have s52 : w5.cell? ⟨g, 2, none⟩ = some (.int .i64 xx) := G5.out.cell 2; have HP5 := hide hp5; have HV5 := hide hv5; clear hp5 hv5 hk5)
            | (go_at_call 12; refine (write_at p F D at_ _ 64 64 fx _ HP5.out.a.1 hact HV5.out HFL.out).mono ?_; rintro e w6 ⟨rfl, ht6⟩; obtain ⟨F6, hp6, _, hk6⟩ := HP5.out.left ht6; have G6 := hide (hk6.blk G5.out HGF.out); have s61 : w6.cell? ⟨g, 1, none⟩ = some (.int .i64 at_) := G6.out.cell 1; have s62 : w6.cell? ⟨g, 2, none⟩ = some (.int .i64 xx) := G6.out.cell 2; have HP6 := hide hp6; clear ht6 hp6 hk6)
            | (go_at_call 14; refine (rwrite_at r G D at_ _ 64 64 fx _ HP7.out.b hact HV7.out HFL.out (by omega)).mono ?_; rintro e w8 ⟨rfl, ht8⟩; obtain ⟨G8, hp8, _, hk8⟩ := HP7.out.right ht8; have GZ8 := hide (hk8.blk G7.out HGG.out); have s81 : w8.cell? ⟨g, 1, none⟩ = some (.int .i64 at_) := GZ8.out.cell 1; have s82 : w8.cell? ⟨g, 2, none⟩ = some (.int .i64 xx) := GZ8.out.cell 2; have HP8 := hide hp8; clear ht8 hp8 hk8))
        have HAC : Hid ((D.write at_ fx).2.acts ≤ j + 1) := hide (by have := write_acts D at_ fx; have := HA0.out; omega)
        have u1 : ((D.write at_ fx).1 != (D.write at_ fx).1) = false := by simp
        clear s51 s52 s61 s62 s71 s72 s81 s82 t1 t2 t3 HP5 HP6 HP7
        generalize (D.write at_ fx).1 = cd at *
        generalize (D.write at_ fx).2 = D' at *
        obtain ⟨_, gsz, gfz, hAz, sgsz, hgsz, csz, cfz, hcz, fvz, lAz, lcz, hDz, _⟩ := HP8.out.b
        have z1 : w8.cell? ⟨r, 1, none⟩ = some (.slice hAz D'.held.length hcz) := hDz.blk.cell 1
        have z4 : w8.cell? ⟨r, 4, none⟩ = some (.bool D'.off) := hDz.blk.cell 4
        have z5 : w8.cell? ⟨r, 5, none⟩ = some (.int .i64 D'.acts) := hDz.blk.cell 5
        have u2 : ((D'.held.length : Int) != (D'.held.length : Int)) = false := by simp
        have u3 : ((D'.acts : Int) != (D'.acts : Int)) = false := by simp
        have u4 : (D'.off != D'.off) = false := by simp
        clear hDz
        go_wp2
        go_quiet (first
          | (go_at_call 28; exact quiet_eq (held_at p F6 D' _ (HP8.out.a.1.drewN _)))
          | (go_at_call 29; exact quiet_eq (acts_at p F6 D' _ (HP8.out.a.1.drewN _)))
          | (go_at_call 30; exact quiet_eq (off_at p F6 D' _ (HP8.out.a.1.drewN _))))
        have HPN := hide (HP8.out.kept ((Kept.refl [] _).drewN nq))
        clear z1 z4 z5 u2 u3 u4
        go_wp2
        exact ⟨⟨F6, p, D', G8, r, j + 1, by omega, rfl, rfl, by go_num, HAC, HPN⟩, by simp [intOf]; omega⟩
      by_cases hk2 : kind = 2
      · subst hk2
        go_wp2_with fail
        generalize hwa : wr.alloc (.cells #[.int .i64 2, .int .i64 at_, .int .i64 xx, .slice NA nums.length nc] 32) = wa
        have GA : Hid (Blk wa wr.heap.size 32 #[.int .i64 2, .int .i64 at_, .int .i64 xx, .slice NA nums.length nc]) := hide (by subst hwa; exact Blk.new _ _ _)
        have HPA : Hid (Pr w wa F p D G r D) := hide (by subst hwa; exact HP.out.kept ((Kept.refl [] wr).alloc _))
        have HGF : Hid (wr.heap.size ∉ F) := hide (fun hm => by have := HP.out.a.1.lt _ hm; omega)
        have HGG : Hid (wr.heap.size ∉ G) := hide (fun hm => by have := HP.out.b.lt _ hm; omega)
        clear hwa
        generalize wr.heap.size = g at *
        have t1 : wa.cell? ⟨g, 1, none⟩ = some (.int .i64 at_) := GA.out.cell 1
        have t2 : wa.cell? ⟨g, 2, none⟩ = some (.int .i64 xx) := GA.out.cell 2
        have t3 : wa.cell? ⟨g, 3, none⟩ = some (.slice NA nums.length nc) := GA.out.cell 3
        go_wp2_with fail
        refine (flush_at p F D _ HPA.out.a.1 hact).mono ?_
        rintro e w5 ⟨rfl, ht5⟩
        obtain ⟨F5, hp5, _, _⟩ := HPA.out.left ht5
        have HP5 := hide hp5
        clear ht5 hp5
        go_wp2_with fail
        refine (rflush_at r G D _ HP5.out.b hact).mono ?_
        rintro e w6 ⟨rfl, ht6⟩
        obtain ⟨G6, hp6, _, _⟩ := HP5.out.right ht6
        have HP6 := hide hp6
        clear ht6 hp6 HP5
        have HAC : Hid (D.flush.2.acts ≤ j + 1) := hide (by have := flush_acts D; have := HA0.out; omega)
        have u1 : (D.flush.1 != D.flush.1) = false := by simp
        clear t1 t2 t3
        generalize D.flush.1 = cd at *
        generalize D.flush.2 = D' at *
        obtain ⟨_, gsz, gfz, hAz, sgsz, hgsz, csz, cfz, hcz, fvz, lAz, lcz, hDz, _⟩ := HP6.out.b
        have z1 : w6.cell? ⟨r, 1, none⟩ = some (.slice hAz D'.held.length hcz) := hDz.blk.cell 1
        have z4 : w6.cell? ⟨r, 4, none⟩ = some (.bool D'.off) := hDz.blk.cell 4
        have z5 : w6.cell? ⟨r, 5, none⟩ = some (.int .i64 D'.acts) := hDz.blk.cell 5
        have u2 : ((D'.held.length : Int) != (D'.held.length : Int)) = false := by simp
        have u3 : ((D'.acts : Int) != (D'.acts : Int)) = false := by simp
        have u4 : (D'.off != D'.off) = false := by simp
        clear hDz
        go_wp2
        go_quiet (first
          | (go_at_call 28; exact quiet_eq (held_at p F5 D' _ (HP6.out.a.1.drewN _)))
          | (go_at_call 29; exact quiet_eq (acts_at p F5 D' _ (HP6.out.a.1.drewN _)))
          | (go_at_call 30; exact quiet_eq (off_at p F5 D' _ (HP6.out.a.1.drewN _))))
        have HPN := hide (HP6.out.kept ((Kept.refl [] _).drewN nq))
        clear z1 z4 z5 u2 u3 u4
        go_wp2
        exact ⟨⟨F5, p, D', G6, r, j + 1, by omega, rfl, rfl, by go_num, HAC, HPN⟩, by simp [intOf]; omega⟩
      by_cases hk3 : kind = 3
      · subst hk3
        go_wp2_with fail
        generalize hwa : wr.alloc (.cells #[.int .i64 3, .int .i64 at_, .int .i64 xx, .slice NA nums.length nc] 32) = wa
        have GA : Hid (Blk wa wr.heap.size 32 #[.int .i64 3, .int .i64 at_, .int .i64 xx, .slice NA nums.length nc]) := hide (by subst hwa; exact Blk.new _ _ _)
        have HPA : Hid (Pr w wa F p D G r D) := hide (by subst hwa; exact HP.out.kept ((Kept.refl [] wr).alloc _))
        have HGF : Hid (wr.heap.size ∉ F) := hide (fun hm => by have := HP.out.a.1.lt _ hm; omega)
        have HGG : Hid (wr.heap.size ∉ G) := hide (fun hm => by have := HP.out.b.lt _ hm; omega)
        clear hwa
        generalize wr.heap.size = g at *
        have t1 : wa.cell? ⟨g, 1, none⟩ = some (.int .i64 at_) := GA.out.cell 1
        have t2 : wa.cell? ⟨g, 2, none⟩ = some (.int .i64 xx) := GA.out.cell 2
        have t3 : wa.cell? ⟨g, 3, none⟩ = some (.slice NA nums.length nc) := GA.out.cell 3
        go_wp2_with fail
        refine (read_at p F D at_ _ HPA.out.a.1).mono ?_
        rintro e w5 ⟨⟨A5, c5, rfl, hf5⟩, hk5⟩
        have V5 := hide hf5.vals
        have HP5 := hide (HPA.out.kept hk5)
        have t15 := hk5.cell t1 (by simp)
        clear hf5 hk5
        go_wp2_with fail
        refine (rread_at r G D at_ _ HP5.out.b (by omega)).mono ?_
        rintro e w6 ⟨⟨A6, c6, rfl, hf6⟩, hk6⟩
        have V6 := hide hf6.vals
        have V56 := hide (V5.out.kept hk6 (by simp))
        have HP6 := hide (HP5.out.kept hk6)
        clear hf6 hk6 t15 HP5 V5
        have HRL := hide (read_len D at_)
        have HAC : Hid (D.acts ≤ j + 1) := hide (by have := HA0.out; omega)
        have u1 : ((D.read at_).1 != (D.read at_).1) = false := by simp
        clear t1 t2 t3
        generalize (D.read at_).1 = cd at *
        generalize (D.read at_).2 = bs at *
        generalize hbl : bs.length = bl at *
        have HBL := hide hbl
        clear hbl
        go_wp2_with fail
        refine (bytes_any A5 A6 bl bl c5 c6 bs bs _ HBL.out HBL.out V56.out V6.out (by have := HRL.out; omega)).mono ?_
        rintro e w7 ⟨rfl, k7, rfl⟩
        rw [decide_eq_true (rfl : bs = bs)]
        have HP7 := hide (HP6.out.kept ((Kept.refl [] _).drewN k7))
        clear V6 V56 HP6
        generalize w6.drewN k7 = w7 at *
        obtain ⟨_, gsz, gfz, hAz, sgsz, hgsz, csz, cfz, hcz, fvz, lAz, lcz, hDz, _⟩ := HP7.out.b
        have z1 : w7.cell? ⟨r, 1, none⟩ = some (.slice hAz D.held.length hcz) := hDz.blk.cell 1
        have z4 : w7.cell? ⟨r, 4, none⟩ = some (.bool D.off) := hDz.blk.cell 4
        have z5 : w7.cell? ⟨r, 5, none⟩ = some (.int .i64 D.acts) := hDz.blk.cell 5
        have u2 : ((D.held.length : Int) != (D.held.length : Int)) = false := by simp
        have u3 : ((D.acts : Int) != (D.acts : Int)) = false := by simp
        have u4 : (D.off != D.off) = false := by simp
        clear hDz
        go_wp2
        go_quiet (first
          | (go_at_call 28; exact quiet_eq (held_at p F D _ (HP7.out.a.1.drewN _)))
          | (go_at_call 29; exact quiet_eq (acts_at p F D _ (HP7.out.a.1.drewN _)))
          | (go_at_call 30; exact quiet_eq (off_at p F D _ (HP7.out.a.1.drewN _))))
        have HPN := hide (HP7.out.kept ((Kept.refl [] _).drewN nq))
        clear z1 z4 z5 u2 u3 u4
        go_wp2
        exact ⟨⟨F, p, D, G, r, j + 1, by omega, rfl, rfl, by go_num, HAC, HPN⟩, by simp [intOf]; omega⟩
      by_cases hk4 : kind = 4
      · subst hk4
        go_wp2_with fail
        generalize hwa : wr.alloc (.cells #[.int .i64 4, .int .i64 at_, .int .i64 xx, .slice NA nums.length nc] 32) = wa
        have GA : Hid (Blk wa wr.heap.size 32 #[.int .i64 4, .int .i64 at_, .int .i64 xx, .slice NA nums.length nc]) := hide (by subst hwa; exact Blk.new _ _ _)
        have HPA : Hid (Pr w wa F p D G r D) := hide (by subst hwa; exact HP.out.kept ((Kept.refl [] wr).alloc _))
        have HGF : Hid (wr.heap.size ∉ F) := hide (fun hm => by have := HP.out.a.1.lt _ hm; omega)
        have HGG : Hid (wr.heap.size ∉ G) := hide (fun hm => by have := HP.out.b.lt _ hm; omega)
        clear hwa
        generalize wr.heap.size = g at *
        have t1 : wa.cell? ⟨g, 1, none⟩ = some (.int .i64 at_) := GA.out.cell 1
        have t2 : wa.cell? ⟨g, 2, none⟩ = some (.int .i64 xx) := GA.out.cell 2
        have t3 : wa.cell? ⟨g, 3, none⟩ = some (.slice NA nums.length nc) := GA.out.cell 3
        go_wp2_with fail
        refine (fuse_at p F D at_ _ HPA.out.a.1 hat63).mono ?_
        rintro e w5 ⟨rfl, hv5, hk5⟩
        obtain ⟨F5, hp5, _, hk5b⟩ := HPA.out.left (Turned.of_kept hv5 hk5 (fun z hz => by simp at hz; subst hz; exact HPA.out.a.1.mem))
        have HP5 := hide hp5
        have t15 := (hk5b.blk GA.out HGF.out).cell 1
        have t15' : w5.cell? ⟨g, 1, none⟩ = some (.int .i64 at_) := t15
        clear hv5 hk5 hp5 hk5b t15
        go_wp2_with fail
        refine (rfuse_at r G D at_ _ HP5.out.b hat63).mono ?_
        rintro e w6 ⟨rfl, hv6, hk6⟩
        obtain ⟨G6, hp6, _, _⟩ := HP5.out.right (RTurned.of_kept hv6 hk6 (fun z hz => by simp at hz; subst hz; exact HP5.out.b.mem))
        have HP6 := hide hp6
        clear hv6 hk6 hp6 HP5
        have HAC : Hid ((D.fused at_).acts ≤ j + 1) := hide (by have h1 : (D.fused at_).acts = D.acts := rfl; have := HA0.out; omega)
        clear t1 t2 t3 t15'
        generalize D.fused at_ = D' at *
        obtain ⟨_, gsz, gfz, hAz, sgsz, hgsz, csz, cfz, hcz, fvz, lAz, lcz, hDz, _⟩ := HP6.out.b
        have z1 : w6.cell? ⟨r, 1, none⟩ = some (.slice hAz D'.held.length hcz) := hDz.blk.cell 1
        have z4 : w6.cell? ⟨r, 4, none⟩ = some (.bool D'.off) := hDz.blk.cell 4
        have z5 : w6.cell? ⟨r, 5, none⟩ = some (.int .i64 D'.acts) := hDz.blk.cell 5
        have u2 : ((D'.held.length : Int) != (D'.held.length : Int)) = false := by simp
        have u3 : ((D'.acts : Int) != (D'.acts : Int)) = false := by simp
        have u4 : (D'.off != D'.off) = false := by simp
        clear hDz
        go_wp2
        go_quiet (first
          | (go_at_call 28; exact quiet_eq (held_at p F5 D' _ (HP6.out.a.1.drewN _)))
          | (go_at_call 29; exact quiet_eq (acts_at p F5 D' _ (HP6.out.a.1.drewN _)))
          | (go_at_call 30; exact quiet_eq (off_at p F5 D' _ (HP6.out.a.1.drewN _))))
        have HPN := hide (HP6.out.kept ((Kept.refl [] _).drewN nq))
        clear z1 z4 z5 u2 u3 u4
        go_wp2
        exact ⟨⟨F5, p, D', G6, r, j + 1, by omega, rfl, rfl, by go_num, HAC, HPN⟩, by simp [intOf]; omega⟩
      by_cases hk5 : kind = 5
      · subst hk5
        go_wp2_with fail
        generalize hwa : wr.alloc (.cells #[.int .i64 5, .int .i64 at_, .int .i64 xx, .slice NA nums.length nc] 32) = wa
        have GA : Hid (Blk wa wr.heap.size 32 #[.int .i64 5, .int .i64 at_, .int .i64 xx, .slice NA nums.length nc]) := hide (by subst hwa; exact Blk.new _ _ _)
        have HPA : Hid (Pr w wa F p D G r D) := hide (by subst hwa; exact HP.out.kept ((Kept.refl [] wr).alloc _))
        have HGF : Hid (wr.heap.size ∉ F) := hide (fun hm => by have := HP.out.a.1.lt _ hm; omega)
        have HGG : Hid (wr.heap.size ∉ G) := hide (fun hm => by have := HP.out.b.lt _ hm; omega)
        clear hwa
        generalize wr.heap.size = g at *
        have t1 : wa.cell? ⟨g, 1, none⟩ = some (.int .i64 at_) := GA.out.cell 1
        have t2 : wa.cell? ⟨g, 2, none⟩ = some (.int .i64 xx) := GA.out.cell 2
        have t3 : wa.cell? ⟨g, 3, none⟩ = some (.slice NA nums.length nc) := GA.out.cell 3
        obtain ⟨ob, hob⟩ : ∃ ob, (bits .and .i64 xx 1 == 1) = ob := ⟨_, rfl⟩
        go_region_held3 (fun W => W.cell? ⟨g, 1, none⟩ = some (.int .i64 at_) ∧ W.cell? ⟨g, 2, none⟩ = some (.int .i64 xx))
          (first | go_keep | assumption)
          (first
            | (go_at_call 22; refine (fault_at p F D at_ ob _ (HPA.out.kept ((Kept.refl [] _).drew)).a.1).mono ?_; rintro e w5 ⟨rfl, hv5, hk5⟩; obtain ⟨F5, hp5, _, hk5b⟩ := (HPA.out.kept ((Kept.refl [] _).drew)).left (Turned.of_kept hv5 hk5 (fun z hz => hz)); have G5 := hide (hk5b.blk (show Blk wa.drew _ _ _ from GA.out) HGF.out); have s51 : w5.cell? ⟨g, 1, none⟩ = some (.int .i64 at_) := G5.out.cell 1; have s52 : w5.cell? ⟨g, 2, none⟩ = some (.int .i64 xx) := G5.out.cell 2; have HP5 := hide hp5; clear hv5 hk5 hp5 hk5b)
            | (go_at_call 23; refine (rfault_at r G D at_ ob _ HP5.out.b).mono ?_; rintro e w6 ⟨rfl, hv6, hk6⟩; obtain ⟨G6, hp6, _, hk6b⟩ := HP5.out.right (RTurned.of_kept hv6 hk6 (fun z hz => hz)); have GZ6 := hide (hk6b.blk G5.out HGG.out); have s61 : w6.cell? ⟨g, 1, none⟩ = some (.int .i64 at_) := GZ6.out.cell 1; have s62 : w6.cell? ⟨g, 2, none⟩ = some (.int .i64 xx) := GZ6.out.cell 2; have HP6 := hide hp6; clear hv6 hk6 hp6 hk6b))
        have HAC : Hid ((D.faulted at_ ob).2.acts ≤ j + 1) := hide (by have h1 : (D.faulted at_ ob).2.acts = D.acts := (by unfold Dk.faulted; split <;> rfl); have := HA0.out; omega)
        have u1 : ((D.faulted at_ ob).1 != (D.faulted at_ ob).1) = false := by simp
        clear s51 s52 s61 s62 t1 t2 t3 HP5 hob
        generalize (D.faulted at_ ob).1 = cd at *
        generalize (D.faulted at_ ob).2 = D' at *
        obtain ⟨_, gsz, gfz, hAz, sgsz, hgsz, csz, cfz, hcz, fvz, lAz, lcz, hDz, _⟩ := HP6.out.b
        have z1 : w6.cell? ⟨r, 1, none⟩ = some (.slice hAz D'.held.length hcz) := hDz.blk.cell 1
        have z4 : w6.cell? ⟨r, 4, none⟩ = some (.bool D'.off) := hDz.blk.cell 4
        have z5 : w6.cell? ⟨r, 5, none⟩ = some (.int .i64 D'.acts) := hDz.blk.cell 5
        have u2 : ((D'.held.length : Int) != (D'.held.length : Int)) = false := by simp
        have u3 : ((D'.acts : Int) != (D'.acts : Int)) = false := by simp
        have u4 : (D'.off != D'.off) = false := by simp
        clear hDz
        go_wp2
        go_quiet (first
          | (go_at_call 28; exact quiet_eq (held_at p F5 D' _ (HP6.out.a.1.drewN _)))
          | (go_at_call 29; exact quiet_eq (acts_at p F5 D' _ (HP6.out.a.1.drewN _)))
          | (go_at_call 30; exact quiet_eq (off_at p F5 D' _ (HP6.out.a.1.drewN _))))
        have HPN := hide (HP6.out.kept ((Kept.refl [] _).drewN nq))
        clear z1 z4 z5 u2 u3 u4
        go_wp2
        exact ⟨⟨F5, p, D', G6, r, j + 1, by omega, rfl, rfl, by go_num, HAC, HPN⟩, by simp [intOf]; omega⟩
      by_cases hk6 : kind = 6
      · subst hk6
        go_wp2_with fail
        generalize hwa : wr.alloc (.cells #[.int .i64 6, .int .i64 at_, .int .i64 xx, .slice NA nums.length nc] 32) = wa
        have GA : Hid (Blk wa wr.heap.size 32 #[.int .i64 6, .int .i64 at_, .int .i64 xx, .slice NA nums.length nc]) := hide (by subst hwa; exact Blk.new _ _ _)
        have HPA : Hid (Pr w wa F p D G r D) := hide (by subst hwa; exact HP.out.kept ((Kept.refl [] wr).alloc _))
        have HGF : Hid (wr.heap.size ∉ F) := hide (fun hm => by have := HP.out.a.1.lt _ hm; omega)
        have HGG : Hid (wr.heap.size ∉ G) := hide (fun hm => by have := HP.out.b.lt _ hm; omega)
        clear hwa
        generalize wr.heap.size = g at *
        have t1 : wa.cell? ⟨g, 1, none⟩ = some (.int .i64 at_) := GA.out.cell 1
        have t2 : wa.cell? ⟨g, 2, none⟩ = some (.int .i64 xx) := GA.out.cell 2
        have t3 : wa.cell? ⟨g, 3, none⟩ = some (.slice NA nums.length nc) := GA.out.cell 3
        go_wp2_with fail
        refine (crash_at p F D NA nums.length nc nums _ HPA.out.a.1 (by omega) (HVN.out.kept HPA.out.a.2.2 (by simp)) rfl).mono ?_
        rintro e w5 ⟨F5, p5, rfl, hv5, hF5, hk5⟩
        have HP5 := hide (HPA.out.kept hk5)
        have t35 := hk5.cell t3 (by simp)
        have HV5 := hide hv5
        have HF5 := hide hF5
        have HS5 := hide (Nat.le_trans HPA.out.a.2.2.size (Nat.le_refl _))
        have HSA := hide hk5.size
        clear hv5 hF5 hk5
        go_wp2_with fail
        refine (rcrash_at r G D NA nums.length nc nums _ HP5.out.b (by omega) (HVN.out.kept HP5.out.a.2.2 (by simp)) rfl (by omega)).mono ?_
        rintro e w6 ⟨G6, r6, rfl, hr6, hG6, hk6⟩
        have HP6 := hide (HP5.out.kept hk6)
        have HPC : Hid (Pr w w6 F5 p5 (D.crash nums) G6 r6 (D.crash nums)) := hide ⟨⟨HV5.out.kept hk6 (by simp), fun x hx => by have := HF5.out x hx; have := HS5.out; omega, HP6.out.a.2.2⟩, hr6, fun x hx => by have := hG6 x hx; have := HS5.out; have := HSA.out; omega, fun x hx hm => by have := HV5.out.lt x hx; have := hG6 x hm; omega⟩
        clear hr6 hG6 hk6 t35 HV5 HF5 HP5
        go_wp2_with fail
        refine (same_at p r F G D _ HP6.out.a.1 HP6.out.b (by omega)).mono ?_
        rintro e w7 ⟨rfl, hk7⟩
        have HP7 := hide (HPC.out.kept hk7)
        clear hk7 HP6 HPC
        have HAC : Hid ((D.crash nums).acts ≤ j + 1) := hide (by have h1 : (D.crash nums).acts = 0 := rfl; omega)
        clear t1 t2 t3
        generalize D.crash nums = D' at *
        obtain ⟨_, gsz, gfz, hAz, sgsz, hgsz, csz, cfz, hcz, fvz, lAz, lcz, hDz, _⟩ := HP7.out.b
        have z1 : w7.cell? ⟨r6, 1, none⟩ = some (.slice hAz D'.held.length hcz) := hDz.blk.cell 1
        have z4 : w7.cell? ⟨r6, 4, none⟩ = some (.bool D'.off) := hDz.blk.cell 4
        have z5 : w7.cell? ⟨r6, 5, none⟩ = some (.int .i64 D'.acts) := hDz.blk.cell 5
        have u2 : ((D'.held.length : Int) != (D'.held.length : Int)) = false := by simp
        have u3 : ((D'.acts : Int) != (D'.acts : Int)) = false := by simp
        have u4 : (D'.off != D'.off) = false := by simp
        clear hDz
        go_wp2
        go_quiet (first
          | (go_at_call 28; exact quiet_eq (held_at p5 F5 D' _ (HP7.out.a.1.drewN _)))
          | (go_at_call 29; exact quiet_eq (acts_at p5 F5 D' _ (HP7.out.a.1.drewN _)))
          | (go_at_call 30; exact quiet_eq (off_at p5 F5 D' _ (HP7.out.a.1.drewN _))))
        have HPN := hide (HP7.out.kept ((Kept.refl [] _).drewN nq))
        clear z1 z4 z5 u2 u3 u4
        go_wp2
        exact ⟨⟨F5, p5, D', G6, r6, j + 1, by omega, rfl, rfl, by go_num, HAC, HPN⟩, by simp [intOf]; omega⟩
      by_cases hk7 : kind = 7
      · subst hk7
        go_wp2_with fail
        generalize hwa : wr.alloc (.cells #[.int .i64 7, .int .i64 at_, .int .i64 xx, .slice NA nums.length nc] 32) = wa
        have GA : Hid (Blk wa wr.heap.size 32 #[.int .i64 7, .int .i64 at_, .int .i64 xx, .slice NA nums.length nc]) := hide (by subst hwa; exact Blk.new _ _ _)
        have HPA : Hid (Pr w wa F p D G r D) := hide (by subst hwa; exact HP.out.kept ((Kept.refl [] wr).alloc _))
        have HGF : Hid (wr.heap.size ∉ F) := hide (fun hm => by have := HP.out.a.1.lt _ hm; omega)
        have HGG : Hid (wr.heap.size ∉ G) := hide (fun hm => by have := HP.out.b.lt _ hm; omega)
        clear hwa
        generalize wr.heap.size = g at *
        have t1 : wa.cell? ⟨g, 1, none⟩ = some (.int .i64 at_) := GA.out.cell 1
        have t2 : wa.cell? ⟨g, 2, none⟩ = some (.int .i64 xx) := GA.out.cell 2
        have t3 : wa.cell? ⟨g, 3, none⟩ = some (.slice NA nums.length nc) := GA.out.cell 3
        go_wp2_with fail
        refine (round_ex xx 130 _ (by omega) (by omega)).mono ?_
        rintro e w5 ⟨kb, hkb, rfl, rfl⟩
        have hmk := run_make_row' (P := Try.prog) 34 5 (.int .u8 0) 1 (by kernel_rfl) (by kernel_rfl) rfl .i64 .i64 kb (by omega) (by omega)
        have V5 : Hid (Vals (wa.alloc (.cells (madeCells #[.int .u8 0] kb) 5)) (F ++ G) (some ⟨wa.heap.size, 0, none⟩) ((List.replicate kb 0).map B)) := hide (vals_made wa (F ++ G) kb (fun i hi => by rcases List.mem_append.1 hi with h | h; exact HPA.out.a.1.lt i h; exact HPA.out.b.lt i h))
        have G5 : Hid (Blk (wa.alloc (.cells (madeCells #[.int .u8 0] kb) 5)) g 32 #[.int .i64 7, .int .i64 at_, .int .i64 xx, .slice NA nums.length nc]) := hide (GA.out.alloc _)
        have HP5 := hide (HPA.out.kept ((Kept.refl [] wa).alloc (.cells (madeCells #[.int .u8 0] kb) 5)))
        have HFL : Hid ((List.replicate kb (0 : UInt8)).length = kb) := hide (by simp)
        generalize hZ : madeCells #[Value.int .u8 0] kb = Z at *
        clear hZ
        go_wp2
        clear hmk t1 t2 t3
        generalize wa.alloc (.cells Z 5) = w5 at *
        generalize wa.heap.size = gz at *
        generalize List.replicate kb (0 : UInt8) = fx at *
        have s51 : w5.cell? ⟨g, 1, none⟩ = some (.int .i64 at_) := G5.out.cell 1
        go_region_held3 (fun W => W.cell? ⟨g, 1, none⟩ = some (.int .i64 at_))
          (first | go_keep | assumption)
          (first
            | (go_at_call 12; refine (write_at p F D at_ _ kb kb fx _ (HP5.out.kept ((Kept.refl [] _).drew)).a.1 hact (show Vals w5.drew F _ _ from V5.out.mono (fun i hi => by simp [hi])) HFL.out).mono ?_; rintro e w6 ⟨rfl, ht6⟩; obtain ⟨F6, hp6, _, hk6⟩ := (HP5.out.kept ((Kept.refl [] _).drew)).left ht6; have G6 := hide (hk6.blk (show Blk w5.drew _ _ _ from G5.out) HGF.out); have s61 : w6.cell? ⟨g, 1, none⟩ = some (.int .i64 at_) := G6.out.cell 1; have HV6 := hide (((show Vals w5.drew (F ++ G) _ _ from V5.out).kept hk6 (fun i hi => by simp [hi])).mono (S' := G) (fun i hi => by simp [hi])); have HP6 := hide hp6; clear ht6 hp6 hk6)
            | (go_at_call 14; refine (rwrite_at r G D at_ _ kb kb fx _ HP6.out.b hact HV6.out HFL.out (Nat.le_refl _)).mono ?_; rintro e w8 ⟨rfl, ht8⟩; obtain ⟨G8, hp8, _, hk8⟩ := HP6.out.right ht8; have GZ8 := hide (hk8.blk G6.out HGG.out); have s81 : w8.cell? ⟨g, 1, none⟩ = some (.int .i64 at_) := GZ8.out.cell 1; have HP8 := hide hp8; clear ht8 hp8 hk8))
        have HAC : Hid ((D.write at_ fx).2.acts ≤ j + 1) := hide (by have := write_acts D at_ fx; have := HA0.out; omega)
        have u1 : ((D.write at_ fx).1 != (D.write at_ fx).1) = false := by simp
        clear s51 s61 s81 HP5 HP6
        generalize (D.write at_ fx).1 = cd at *
        generalize (D.write at_ fx).2 = D' at *
        obtain ⟨_, gsz, gfz, hAz, sgsz, hgsz, csz, cfz, hcz, fvz, lAz, lcz, hDz, _⟩ := HP8.out.b
        have z1 : w8.cell? ⟨r, 1, none⟩ = some (.slice hAz D'.held.length hcz) := hDz.blk.cell 1
        have z4 : w8.cell? ⟨r, 4, none⟩ = some (.bool D'.off) := hDz.blk.cell 4
        have z5 : w8.cell? ⟨r, 5, none⟩ = some (.int .i64 D'.acts) := hDz.blk.cell 5
        have u2 : ((D'.held.length : Int) != (D'.held.length : Int)) = false := by simp
        have u3 : ((D'.acts : Int) != (D'.acts : Int)) = false := by simp
        have u4 : (D'.off != D'.off) = false := by simp
        clear hDz
        go_wp2
        go_quiet (first
          | (go_at_call 28; exact quiet_eq (held_at p F6 D' _ (HP8.out.a.1.drewN _)))
          | (go_at_call 29; exact quiet_eq (acts_at p F6 D' _ (HP8.out.a.1.drewN _)))
          | (go_at_call 30; exact quiet_eq (off_at p F6 D' _ (HP8.out.a.1.drewN _))))
        have HPN := hide (HP8.out.kept ((Kept.refl [] _).drewN nq))
        clear z1 z4 z5 u2 u3 u4
        go_wp2
        exact ⟨⟨F6, p, D', G8, r, j + 1, by omega, rfl, rfl, by go_num, HAC, HPN⟩, by simp [intOf]; omega⟩
      have n1 : (kind == 1) = false := beq_eq_false_iff_ne.2 hk1
      have n2 : (kind == 2) = false := beq_eq_false_iff_ne.2 hk2
      have n3 : (kind == 3) = false := beq_eq_false_iff_ne.2 hk3
      have n4 : (kind == 4) = false := beq_eq_false_iff_ne.2 hk4
      have n5 : (kind == 5) = false := beq_eq_false_iff_ne.2 hk5
      have n6 : (kind == 6) = false := beq_eq_false_iff_ne.2 hk6
      have n7 : (kind == 7) = false := beq_eq_false_iff_ne.2 hk7
      clear hk1 hk2 hk3 hk4 hk5 hk6 hk7
      go_wp2_with fail
      generalize hwa : wr.alloc (.cells #[.int .i64 kind, .int .i64 at_, .int .i64 xx, .slice NA nums.length nc] 32) = wa
      have HPA : Hid (Pr w wa F p D G r D) := hide (by subst hwa; exact HP.out.kept ((Kept.refl [] wr).alloc _))
      clear hwa n1 n2 n3 n4 n5 n6 n7
      have HAC : Hid (D.acts ≤ j + 1) := hide (by have := HA0.out; omega)
      obtain ⟨_, gsz, gfz, hAz, sgsz, hgsz, csz, cfz, hcz, fvz, lAz, lcz, hDz, _⟩ := HPA.out.b
      have z1 : wa.cell? ⟨r, 1, none⟩ = some (.slice hAz D.held.length hcz) := hDz.blk.cell 1
      have z4 : wa.cell? ⟨r, 4, none⟩ = some (.bool D.off) := hDz.blk.cell 4
      have z5 : wa.cell? ⟨r, 5, none⟩ = some (.int .i64 D.acts) := hDz.blk.cell 5
      have u2 : ((D.held.length : Int) != (D.held.length : Int)) = false := by simp
      have u3 : ((D.acts : Int) != (D.acts : Int)) = false := by simp
      have u4 : (D.off != D.off) = false := by simp
      clear hDz
      go_wp2
      go_quiet (first
        | (go_at_call 28; exact quiet_eq (held_at p F D _ (HPA.out.a.1.drewN _)))
        | (go_at_call 29; exact quiet_eq (acts_at p F D _ (HPA.out.a.1.drewN _)))
        | (go_at_call 30; exact quiet_eq (off_at p F D _ (HPA.out.a.1.drewN _))))
      have HPN := hide (HPA.out.kept ((Kept.refl [] _).drewN nq))
      clear z1 z4 z5 u2 u3 u4
      go_wp2
      exact ⟨⟨F, p, D, G, r, j + 1, by omega, rfl, rfl, by go_num, HAC, HPN⟩, by simp [intOf]; omega⟩
    · obtain rfl : j = len := by omega
      have hact : D.acts ≤ 1000000 := by have := HA0.out; omega
      go_wp2_with fail
      refine (same_at p r F G D _ HP.out.a.1 HP.out.b hact).mono ?_
      rintro e w3 ⟨rfl, hk3⟩
      have HP3 := hide (HP.out.kept hk3)
      clear hk3
      go_wp2_with fail
      refine (awake_any _).mono ?_
      rintro e w4 ⟨rfl, hk4⟩
      have HP4 := hide (HP3.out.kept hk4)
      clear hk4 HP3
      go_wp2
      go_ret
      exact ⟨rfl, HP4.out.a.below⟩
end Go.Proofs.Yteobkgajebbpaaa.diskPlays
