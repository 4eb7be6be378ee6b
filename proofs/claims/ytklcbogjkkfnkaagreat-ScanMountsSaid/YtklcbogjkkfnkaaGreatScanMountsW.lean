/- ScanMounts: its walk (made by tools/gen13/gmounts.py). -/
import Derived.Test.YtklcbogjkkfnkaaGreatScanLawCore
import Derived.Test.YtklcbogjkkfnkaaGreatScanMountsMath
namespace Go.Proofs.YtklcbogjkkfnkaaGreat.sc
set_option linter.unusedSimpArgs false
open Go.RowKit Go.Proofs.YtklcbogjkkfnkaaGreat.mem Go.Proofs.YtklcbogjkkfnkaaGreat.base Go.Proofs.YtklcbogjkkfnkaaGreat.disk Go.Proofs.YtklcbogjkkfnkaaGreat.owns
open Go.Proofs.YtklcbogjkkfnkaaGreat.record (Rc RcIn RcAt put5 put5_kept cell5)
open Go.Proofs.YtklcbogjkkfnkaaGreat.geom (GAt Rf segAt)

/-- A literal record of one Mark. -/
theorem mark_at {w : World} (k : Int) (q : Ps) (v : Int) {b : Nat} (h : Blk w b 80 #[.int .i64 3, .int .i64 0, .int .i64 0, .int .i64 v]) : RcAt w (some ⟨b, 0, none⟩) 1 none 0 (markR k q v) :=
  ⟨rfl, rfl, Vals.blk 0 h (by simp) (fun i x hx => by simpa [markR, item.valsOf, item.It.vals] using hx), crc.Parts.nil _ _⟩

theorem field_o (p : Ps) (w : World) : (Instr.field 24 (.agg #[.int .i64 p.s, .int .i64 p.o, .int .i64 p.l, .int .i64 p.v, .int .i64 p.m]) 1).run Tryz.prog w = .ok (.int .i64 p.o) w := by kernel_rfl
theorem kept5 {W W' : World} {S : List Nat} {b : Nat} {v0 v1 v2 v3 v4 : Value} (h : W.cell? ⟨b, 0, none⟩ = some v0 ∧ W.cell? ⟨b, 1, none⟩ = some v1 ∧ W.cell? ⟨b, 2, none⟩ = some v2 ∧ W.cell? ⟨b, 3, none⟩ = some v3 ∧ W.cell? ⟨b, 4, none⟩ = some v4) (k : Kept S W W') (hb : b ∉ S) :
    W'.cell? ⟨b, 0, none⟩ = some v0 ∧ W'.cell? ⟨b, 1, none⟩ = some v1 ∧ W'.cell? ⟨b, 2, none⟩ = some v2 ∧ W'.cell? ⟨b, 3, none⟩ = some v3 ∧ W'.cell? ⟨b, 4, none⟩ = some v4 :=
  ⟨k.cell h.1 hb, k.cell h.2.1 hb, k.cell h.2.2.1 hb, k.cell h.2.2.2.1 hb, k.cell h.2.2.2.2 hb⟩
set_option maxRecDepth 100000 in
set_option maxHeartbeats 8000000 in
theorem mounts_in (A : Option Addr) (n0 c0 : Nat) (ms : List Int) (w : World) (hv : Vals w [] A (ms.map I)) (hl : ms.length = n0) (h1 : 1 ≤ n0) (h10 : n0 ≤ 10) :
    Calls Tryz.prog 5 #[.slice A n0 c0] w fun e w' => e = .returned (.bool true) ∧ Kept [] w w' := by
  have HV := hide hv
  have HL := hide hl
  have h01 : ¬ (n0 : Int) < 1 := by omega
  have h02 : ¬ (10 : Int) < n0 := by omega
  clear hv hl
  obtain ⟨b3, hb3⟩ : ∃ b3, w.heap.size = b3 := ⟨_, rfl⟩
  obtain ⟨w1, hw1⟩ : ∃ w1, w.alloc (.cells #[.int .i64 3, .int .i64 8, .int .i64 40] 29) = w1 := ⟨_, rfl⟩
  have k1 : Kept [] w w1 := by rw [← hw1]; exact (Kept.refl [] w).alloc _
  have m1 : Blk w1 b3 29 #[.int .i64 3, .int .i64 8, .int .i64 40] := by rw [← hw1, ← hb3]; exact Blk.new w _ _
  have HK1 := hide k1
  have HM1 := hide m1
  obtain ⟨c0, c1, c2⟩ : w1.cell? ⟨b3, 0, none⟩ = some (.int .i64 3) ∧ w1.cell? ⟨b3, 1, none⟩ = some (.int .i64 8) ∧ w1.cell? ⟨b3, 2, none⟩ = some (.int .i64 40) := ⟨m1.cell 0, m1.cell 1, m1.cell 2⟩
  clear k1 m1
  go_enter Tryz.func5, Tryz.ntmps5
  go_wp2_with fail
  refine (desk_any 3 8 40 _ (by unfold geom.Ok; omega)).mono ?_
  rintro e w2 ⟨F0, d, G0, rd, g, n, r, q, rfl, hdk⟩
  have hlw := Lw.of_desk HK1.out hdk
  have hbd := hdk.geo.bounds
  have hnn := hdk.hn
  have HRF := hide hdk.geo.rf
  have HM1a := hide (hdk.kept.blk HM1.out (by simp))
  have hbc : b3 ∉ F0 ++ G0 := fun hm => by have h1 := hdk.new _ hm; have h2 := hdk.old; have h3 := HM1.out.lt; omega
  obtain ⟨b8, hb8⟩ : ∃ b8, w2.heap.size = b8 := ⟨_, rfl⟩
  obtain ⟨w3, hw3⟩ : ∃ w3, w2.alloc (.cells #[.int .i64 4, .int .i64 1, .int .i64 1, .int .i64 0, .int .i64 5] 24) = w3 := ⟨_, rfl⟩
  have k3 : Kept [] w2 w3 := by rw [← hw3]; exact (Kept.refl [] w2).alloc _
  have m8 : Blk w3 b8 24 #[.int .i64 4, .int .i64 1, .int .i64 1, .int .i64 0, .int .i64 5] := by rw [← hw3, ← hb8]; exact Blk.new w2 _ _
  have hbp : b8 ∉ F0 ++ G0 := fun hm => by have h1 := hdk.dd.lt _ hm; omega
  obtain ⟨a, haa⟩ : ∃ a : Nat, 2 + 2 * r + 4 * q + 4 * 40 = (a : Int) := ⟨(2 + 2 * r + 4 * q + 4 * 40).toNat, by omega⟩
  have hn4 : 1 ≤ n ∧ n ≤ 4096 := by omega
  have HN := hide (show (a : Int) + 40 ≤ n ∧ a ≤ 4000 by omega)
  obtain ⟨hsg, hdn, hda⟩ := Seg.new n a 40 ⟨4, 1, 1, 0, 5⟩ hn4.1 hn4.2 (by omega) HN.out.1 rfl (by decide)
  obtain ⟨D1, hD1⟩ : ∃ D1, putD (Dk.new n) (a : Int) (headOf ⟨4, 1, 1, 0, 5⟩).bytes = D1 := ⟨_, rfl⟩
  rw [hD1] at hsg hdn hda
  have HD1E := sealed hD1
  have HSG := hide hsg
  have HDN := hide hdn
  have HDA := hide hda
  have HAA := hide haa
  have HD0 := hide (Reads.new n hn4.1 hn4.2)
  have HDNN := hide (show (Dk.new n).n = n by unfold Dk.n Dk.new; simp)
  have HM8 := hide m8
  have HM1b := hide (k3.blk HM1a.out (by simp))
  have HLW := hide (hlw.keep k3)
  have HBC := hide hbc
  have HBP := hide hbp
  have HBNEW := hide (show w.heap.size ≤ b3 ∧ w.heap.size ≤ b8 ∧ b3 ≠ b8 from ⟨by omega, by have := hlw.kept.size; omega, by have := HM1a.out.lt; omega⟩)
  obtain ⟨d0, d1, d2⟩ : w3.cell? ⟨b3, 0, none⟩ = some (.int .i64 3) ∧ w3.cell? ⟨b3, 1, none⟩ = some (.int .i64 8) ∧ w3.cell? ⟨b3, 2, none⟩ = some (.int .i64 40) := ⟨HM1b.out.cell 0, HM1b.out.cell 1, HM1b.out.cell 2⟩
  obtain ⟨p0, p1, p2, p3, p4⟩ := cell5 HM8.out
  clear hD1 c0 c1 c2 k3 m8 hbd haa hnn hn4 hsg hdn hda hlw hbc hbp HM1 HK1 HM1a hdk hw1
  go_wp2_with fail
  refine (khead_any F0 G0 d rd (Dk.new n) ⟨4, 1, 1, 0, 5⟩ 3 8 40 r q a _ HLW.out.dd HD0.out HRF.out (by decide) (by decide) HAA.out (by rw [HDNN.out]; have := HN.out; omega) (by simp [Dk.new])).mono ?_
  rintro e w4 ⟨rfl, hto⟩
  have hto1 : DdTo w3 w4 F0 d G0 rd D1 := by rw [← HD1E.out]; exact hto
  obtain ⟨F, G, hlw4, hap4, hk4⟩ := HLW.out.put hto1
  have HLW4 := hide hlw4
  have HM1c := hide (hk4.blk HM1b.out HBC.out)
  have HM8c := hide (hk4.blk HM8.out HBP.out)
  have HBC4 := hide (hap4 _ HBC.out HM1b.out.lt)
  have HBP4 := hide (hap4 _ HBP.out HM8.out.lt)
  clear hto hto1 hlw4 hap4 hk4 p0 p1 p2 p3 p4 d0 d1 d2 HM1b HM8 HLW HBC HBP hw3 HD0 HDNN
  obtain ⟨p0, p1, p2, p3, p4⟩ := cell5 HM8c.out
  obtain ⟨b11, hb11⟩ : ∃ b11, w4.heap.size = b11 := ⟨_, rfl⟩
  obtain ⟨w5, hw5⟩ : ∃ w5, w4.alloc (.cells #[.int .i64 4, .int .i64 1, .int .i64 1, .int .i64 0, .int .i64 5] 24) = w5 := ⟨_, rfl⟩
  have k5 : Kept [] w4 w5 := by rw [← hw5]; exact (Kept.refl [] w4).alloc _
  have m11 : Blk w5 b11 24 #[.int .i64 4, .int .i64 1, .int .i64 1, .int .i64 0, .int .i64 5] := by rw [← hw5, ← hb11]; exact Blk.new w4 _ _
  have HM11 := hide m11
  have HLW5 := hide (HLW4.out.keep k5)
  have HB11 := hide (show b11 ∉ F ++ G ∧ w.heap.size ≤ b11 ∧ g ≠ b11 from ⟨fun hm => by have := HLW4.out.dd.lt _ hm; omega, by have := HLW4.out.kept.size; omega, by have := HLW4.out.geo.lt; omega⟩)
  have HMT : Hid (Mt D1 a ⟨4, 1, 1, 0, 5⟩ [] ⟨4, 1, 1, 0, 5⟩ ⟨4, 1, 1, 0, 5⟩ false 0) := hide ⟨rfl, rfl, rfl, by decide, by decide, rfl, HSG.out.reads, fun _ => ⟨HSG.out, rfl⟩, fun h => by cases h⟩
  clear k5 m11 HM1c HM8c HBC4 HBP4 HLW4 HBNEW
  go_wp2
  clear p0 p1 p2 p3 p4 hw5
  go_loopw [9, 10, 12] (fun wt dn i wr => ∃ (j : Nat) (D : Dk) (l : List (Ps × Rc)) (E x : Ps) (down : Bool) (F1 G1 : List Nat), j ≤ n0 ∧ i = .int .i64 j ∧ wt = .int .i64 (l.length : Nat) ∧ dn = .bool down ∧ Hid (Mt D a ⟨4, 1, 1, 0, 5⟩ l E x down j) ∧ Hid (Lw wr w F1 G1 d rd g D 3 8 40 r q) ∧ Hid (Blk wr b11 24 #[.int .i64 x.s, .int .i64 x.o, .int .i64 x.l, .int .i64 x.v, .int .i64 x.m]) ∧ Hid (b11 ∉ F1 ++ G1) ∧ Hid (D.n = n ∧ D.acts ≤ 10 + 10 * j)) (fun wt dn i wr => n0 - (intOf i).toNat)
  case atStart => exact ⟨0, D1, [], ⟨4, 1, 1, 0, 5⟩, ⟨4, 1, 1, 0, 5⟩, false, F, G, Nat.zero_le _, rfl, rfl, rfl, HMT, HLW5, HM11, hide HB11.out.1, hide ⟨HDN.out, by rw [HDA.out]; omega⟩⟩
  case round =>
    obtain ⟨j, D, l, E, x, down, F1, G1, hj, rfl, rfl, rfl, HMTr, HLWr, HBQ, HBA, HDr⟩ := hrel
    clear HMT HLW5 HM11
    by_cases hlt : j < n0
    · obtain ⟨z, hz⟩ : ∃ z, ms[j]? = some z := ⟨_, List.getElem?_eq_getElem (by rw [HL.out]; exact hlt)⟩
      obtain ⟨ad, rfl, _, hc⟩ := (HV.out.kept HLWr.out.kept (by simp)) j (I z) (by rw [List.getElem?_map, hz]; rfl)
      unfold I at hc
      clear hz
      have hr1 := Int.emod_nonneg z (show (12 : Int) ≠ 0 by omega)
      have hr2 := Int.emod_lt_of_pos z (show (0 : Int) < 12 by omega)
      have hrd := round_any z 12
      obtain ⟨y, hy⟩ : ∃ y, z % 12 = y := ⟨_, rfl⟩
      rw [hy] at hr1 hr2
      simp only [hy] at hrd
      have HRD := hide hrd
      obtain ⟨k, hk⟩ : ∃ k, 1 + y = k := ⟨_, rfl⟩
      have hk12 : 1 ≤ k ∧ k ≤ 12 := by omega
      obtain ⟨l', E', hst, hln, hdn2, hac2⟩ := HMTr.out.step k hk12 (by omega) (by rw [HDr.out.1]; exact HN.out.1)
      have HST := hide hst
      have HLN := sealed hln
      have HDN2 := hide hdn2
      have HAC2 := hide hac2
      have hxo : 1 ≤ x.o ∧ x.o ≤ 20 := by have := HMTr.out.o; omega
      have hxl : 1 ≤ x.l ∧ x.l ≤ 20 := by have := HMTr.out.num; omega
      have hxv := HMTr.out.v
      obtain ⟨q0, q1, q2, q3, q4⟩ := cell5 HBQ.out
      obtain ⟨bi, hbi⟩ : ∃ bi, wr.heap.size = bi := ⟨_, rfl⟩
      obtain ⟨wi, hwi⟩ : ∃ wi, wr.alloc (.cells #[.int .i64 3, .int .i64 0, .int .i64 0, .int .i64 (j + 1)] 80) = wi := ⟨_, rfl⟩
      have ki : Kept [] wr wi := by rw [← hwi]; exact (Kept.refl [] wr).alloc _
      have mi : Blk wi bi 80 #[.int .i64 3, .int .i64 0, .int .i64 0, .int .i64 (j + 1)] := by rw [← hwi, ← hbi]; exact Blk.new wr _ _
      have HRC := hide (mark_at k x (j + 1) mi)
      have hok : (markR k x (j + 1)).ok := markR_ok k x (j + 1) (by omega) (by omega) hxv (by omega)
      have HOK := hide hok
      have HLWi := hide (HLWr.out.keep ki)
      have HBQi := hide (ki.blk HBQ.out (by simp))
      have HBB := sealed (show Rc.bytes (markR k x (j + 1)) = Rc.bytes (markR k x (1 + j)) from by rw [Int.add_comm])
      clear hrd hy hst hln hdn2 hac2 ki mi hok HLWr HBQ
      go_wp2_with fail
      refine (HRD.out _ (by omega) (by omega)).mono ?_
      rintro e w6 ⟨rfl, rfl⟩
      clear HRD
      go_wp2_with fail
      refine (record.rbytes_far (markR k x (j + 1)) (some ⟨bi, 0, none⟩) none 1 1 0 0 _ HRC.out HOK.out).mono ?_
      rintro e w7 ⟨P, cp, rfl, hcp, hby, hk7⟩
      have HCP := hide hcp
      have HBY := hide (hby (F1 ++ G1) HLWi.out.dd.lt)
      have HLW7 := hide (HLWi.out.keep hk7)
      have HBQ7 := hide (hk7.blk HBQi.out (by simp))
      have hm1 : (markR k x (j + 1)).m = k := rfl
      clear hcp hby hk7 q0 q1 q2 q3 q4 HLWi HBQi HRC hwi
      obtain ⟨q0, q1, q2, q3, q4⟩ := cell5 HBQ7.out
      obtain ⟨sm, hsm⟩ : ∃ sm : Nat, (markR k x (j + 1)).sum = sm := ⟨_, rfl⟩
      rw [hsm]
      have HSM := sealed hsm
      obtain ⟨t, ht⟩ : ∃ t : Nat, (a : Int) + (x.o.toNat : Int) = (t : Int) := ⟨a + x.o.toNat, by omega⟩
      have hat : (a : Int) + x.o = (t : Int) := by omega
      have ht4 : t ≤ 4100 := by have := HN.out.2; omega
      have hwt : IntKind.i64.wrap (t : Int) = (t : Int) := IntWalk.i64_in _ (by omega)
      have htn : t + 1 ≤ D.n := by have h1 := HDr.out.1; have h2 := HN.out.1; have h3 := HMTr.out.o; omega
      have HTN := hide htn
      have HT := sealed ht
      have HOK6 := sealed (show (markR k x (j + 1)).bytes = (markR k x (1 + j)).bytes from HBB.out)
      have HSUM := sealed (show (sm : Int) = ((markR k x (1 + j)).sum : Int) from by rw [← HSM.out, Int.add_comm])
      clear htn hsm ht hm1
      go_wp2
      refine wp_region_noPanic ?_
      refine wp_region_held_drew (S := fun W => Kept (F1 ++ G1) w7 W ∧ (W.cell? ⟨b11, 0, none⟩ = some (.int .i64 x.s) ∧ W.cell? ⟨b11, 1, none⟩ = some (.int .i64 x.o) ∧ W.cell? ⟨b11, 2, none⟩ = some (.int .i64 x.l) ∧ W.cell? ⟨b11, 3, none⟩ = some (.int .i64 x.v) ∧ W.cell? ⟨b11, 4, none⟩ = some (.int .i64 x.m))) (by kernel_rfl) (by exact ⟨(Kept.refl _ w7).drew, q0, q1, q2, q3, q4⟩) (fun hHeld => ?_)
      refine wpAnyH_take (i := 0) (oi := ⟨some 74, _, _, _, _, _⟩) (v := ?v1) rfl (by kernel_rfl) (by kernel_rfl) (by kernel_rfl) (fun _ _ _ h => h) (Or.inl ⟨by rfl, ?hy1⟩) (by assumption) ?rest1
      case hy1 => (intro W hSw; (try dsimp only at hSw); go_simp; try with_reducible rfl)
      try simp only [Act.put, List.setIfInBounds_toArray, List.set_cons_zero, List.set_cons_succ]
      refine wpAnyH_take (i := 1) (oi := ⟨some 75, _, _, _, _, _⟩) (v := ?v2) rfl (by kernel_rfl) (by kernel_rfl) (by kernel_rfl) (fun _ _ _ h => h) (Or.inl ⟨by rfl, ?hy2⟩) (by assumption) ?rest2
      case hy2 => (intro W hSw; (try dsimp only at hSw); go_simp; try with_reducible rfl)
      try simp only [Act.put, List.setIfInBounds_toArray, List.set_cons_zero, List.set_cons_succ]
      refine wpAnyH_take (i := 2) (oi := ⟨some 76, _, _, _, _, _⟩) (v := ?v3) rfl (by kernel_rfl) (by kernel_rfl) (by kernel_rfl) (fun _ _ _ h => h) (Or.inl ⟨by rfl, ?hy3⟩) (by assumption) ?rest3
      case hy3 => (intro W hSw; (try dsimp only at hSw); go_simp; try with_reducible rfl)
      try simp only [Act.put, List.setIfInBounds_toArray, List.set_cons_zero, List.set_cons_succ]
      refine wpAnyH_take (i := 3) (oi := ⟨some 77, _, _, _, _, _⟩) (v := ?v4) rfl (by kernel_rfl) (by kernel_rfl) (by kernel_rfl) (fun _ _ _ h => h) (Or.inl ⟨by rfl, ?hy4⟩) (by assumption) ?rest4
      case hy4 => (intro W hSw; (try dsimp only at hSw); go_simp; try with_reducible rfl)
      try simp only [Act.put, List.setIfInBounds_toArray, List.set_cons_zero, List.set_cons_succ]
      refine wpAnyH_take (i := 4) (oi := ⟨some 78, _, _, _, _, _⟩) (v := ?v5) rfl (by kernel_rfl) (by kernel_rfl) (by kernel_rfl) (fun _ _ _ h => h) (Or.inl ⟨by rfl, ?hy5⟩) (by assumption) ?rest5
      case hy5 => (intro W hSw; (try dsimp only at hSw); go_simp; try with_reducible rfl)
      try simp only [Act.put, List.setIfInBounds_toArray, List.set_cons_zero, List.set_cons_succ]
      refine wpAnyH_take (i := 5) (oi := ⟨some 79, _, _, _, _, _⟩) (v := ?v6) rfl (by kernel_rfl) (by kernel_rfl) (by kernel_rfl) (fun _ _ _ h => h) (Or.inl ⟨by rfl, ?hy6⟩) (by assumption) ?rest6
      case hy6 => (intro W hSw; (try dsimp only at hSw); go_simp; try with_reducible rfl)
      try simp only [Act.put, List.setIfInBounds_toArray, List.set_cons_zero, List.set_cons_succ]
      refine wpAnyH_take (i := 7) (oi := ⟨some 81, _, _, _, _, _⟩) (v := ?v7) rfl (by kernel_rfl) (by kernel_rfl) (by kernel_rfl) (fun _ _ _ h => h) (Or.inl ⟨by rfl, ?hy7⟩) (by assumption) ?rest7
      case hy7 => (intro W hSw; (try dsimp only at hSw); go_simp; try with_reducible rfl)
      try simp only [Act.put, List.setIfInBounds_toArray, List.set_cons_zero, List.set_cons_succ]
      refine wpAnyH_take (i := 8) (oi := ⟨some 82, _, _, _, _, _⟩) (v := ?v8) rfl (by kernel_rfl) (by kernel_rfl) (by kernel_rfl) (fun _ _ _ h => h) (Or.inl ⟨by rfl, ?hy8⟩) (by assumption) ?rest8
      case hy8 => (intro W hSw; (try dsimp only at hSw); go_simp; try with_reducible rfl)
      try simp only [Act.put, List.setIfInBounds_toArray, List.set_cons_zero, List.set_cons_succ]
      refine wpAnyH_take (i := 10) (oi := ⟨some 84, _, _, _, _, _⟩) (v := ?v9) rfl (by kernel_rfl) (by kernel_rfl) (by kernel_rfl) (fun _ _ _ h => h) (Or.inl ⟨by rfl, ?hy9⟩) (by assumption) ?rest9
      case hy9 => (intro W hSw; (try dsimp only at hSw); go_simp; try with_reducible rfl)
      try simp only [Act.put, List.setIfInBounds_toArray, List.set_cons_zero, List.set_cons_succ]
      refine held_one (i := 6) (o := ⟨some 80, _, _, _, _, _⟩) rfl (by kernel_rfl) (by rfl) (fun K hK => ?_)
      go_simp
      refine (geom.seg_any g 3 8 40 r q 4 _ (HLW7.out.geo.kept (Kept.refl [] w7).drew)).mono ?_
      rintro e w8 ⟨rfl, hk8⟩
      rw [segAt_in (by decide), HAA.out]
      have HK8 := hide (show Kept [] w7 w8 from ((Kept.refl [] w7).drew).trans hk8 (by simp))
      have HX8 := hide (show (fun W => Kept (F1 ++ G1) w7 W ∧ (W.cell? ⟨b11, 0, none⟩ = some (.int .i64 x.s) ∧ W.cell? ⟨b11, 1, none⟩ = some (.int .i64 x.o) ∧ W.cell? ⟨b11, 2, none⟩ = some (.int .i64 x.l) ∧ W.cell? ⟨b11, 3, none⟩ = some (.int .i64 x.v) ∧ W.cell? ⟨b11, 4, none⟩ = some (.int .i64 x.m))) w8 from ⟨HK8.out.mono (by simp), awk5 ⟨q0, q1, q2, q3, q4⟩ HK8.out⟩)
      refine hK.out _ _ (by exact HX8.out) (fun hHeld => ?_)
      clear hK K
      try simp only [Act.put, List.setIfInBounds_toArray, List.set_cons_zero, List.set_cons_succ]
      refine wpAnyH_take (i := 9) (oi := ⟨some 83, _, _, _, _, _⟩) (v := ?v10) rfl (by kernel_rfl) (by kernel_rfl) (by kernel_rfl) (fun _ _ _ h => h) (Or.inl ⟨by rfl, ?hy10⟩) (by assumption) ?rest10
      case hy10 => (intro W hSw; (try dsimp only at hSw); go_simp; try with_reducible rfl)
      try simp only [Act.put, List.setIfInBounds_toArray, List.set_cons_zero, List.set_cons_succ]
      refine held_one (i := 11) (o := ⟨some 85, _, _, _, _, _⟩) rfl (by kernel_rfl) (by rfl) (fun K hK => ?_)
      go_simp
      refine (put_any F1 G1 d rd D t P (64 * (1 + 0)) cp 1 (markR k x (j + 1)).bytes _ (HLW7.out.dd.kept0 HK8.out) HMTr.out.reads.live HTN.out (by omega) (by have := HDr.out.2; omega) (by rw [Rc.bytes_len HOK.out]; rfl) rfl HCP.out (HBY.out.kept HK8.out (by simp))).mono ?_
      rintro e w9 ⟨rfl, hto⟩
      obtain ⟨F2, G2, hlw9, hap9, hk9⟩ := (HLW7.out.keep HK8.out).put hto
      have HLW9 := hide hlw9
      have HAP9 := hide hap9
      have HK9 := hide hk9
      have HX9 := hide (show (fun W => Kept (F1 ++ G1) w7 W ∧ (W.cell? ⟨b11, 0, none⟩ = some (.int .i64 x.s) ∧ W.cell? ⟨b11, 1, none⟩ = some (.int .i64 x.o) ∧ W.cell? ⟨b11, 2, none⟩ = some (.int .i64 x.l) ∧ W.cell? ⟨b11, 3, none⟩ = some (.int .i64 x.v) ∧ W.cell? ⟨b11, 4, none⟩ = some (.int .i64 x.m))) w9 from ⟨HX8.out.1.trans hk9 (fun i hi => .inl hi), kept5 (HX8.out.2) hk9 HBA.out⟩)
      refine hK.out _ _ (by exact HX9.out) (fun hHeld => ?_)
      clear hK K
      try simp only [Act.put, List.setIfInBounds_toArray, List.set_cons_zero, List.set_cons_succ]
      refine wpAnyH_take (i := 12) (oi := ⟨some 86, _, _, _, _, _⟩) (v := ?v11) rfl (by kernel_rfl) (by kernel_rfl) (by kernel_rfl) (fun _ _ _ h => h) (Or.inl ⟨by rfl, ?hy11⟩) (by assumption) ?rest11
      case hy11 => (intro W hSw; (try dsimp only at hSw); go_simp; try with_reducible rfl)
      try simp only [Act.put, List.setIfInBounds_toArray, List.set_cons_zero, List.set_cons_succ]
      refine wpAnyH_take (i := 13) (oi := ⟨some 87, _, _, _, _, _⟩) (v := ?v12) rfl (by kernel_rfl) (by kernel_rfl) (by kernel_rfl) (fun _ _ _ h => h) (Or.inl ⟨by rfl, ?hy12⟩) (by assumption) ?rest12
      case hy12 => (intro W hSw; (try dsimp only at hSw); go_simp; try with_reducible rfl)
      try simp only [Act.put, List.setIfInBounds_toArray, List.set_cons_zero, List.set_cons_succ]
      refine wpAnyH_done (by kernel_rfl) ?_ _
      refine NoPanic.normal ?_
      have HBQ9 := hide (HK9.out.blk (HK8.out.blk HBQ7.out (by simp)) HBA.out)
      have HST2 : Hid (Mt (putD D (t : Int) (markR k x (j + 1)).bytes) a ⟨4, 1, 1, 0, 5⟩ l' E' ⟨x.s, x.o + 1, x.l + 1, (sm : Int), k⟩ (down || decide (k < x.m)) (j + 1)) := hide (by
        have := HST.out
        rw [HT.out, ← HOK6.out, ← HSUM.out] at this
        exact this)
      have HXS := sealed HMTr.out.s
      have HD2 : Hid ((putD D (t : Int) (markR k x (j + 1)).bytes).n = n ∧ (putD D (t : Int) (markR k x (j + 1)).bytes).acts ≤ 10 + 10 * (j + 1)) := hide (by
        have h1 := HDN2.out
        have h2 := HAC2.out
        rw [HT.out, ← HOK6.out] at h1 h2
        have h3 := HDr.out
        exact ⟨by rw [h1]; exact h3.1, by rw [h2]; omega⟩)
      have hB11 := HAP9.out b11 HBA.out (HK8.out.blk HBQ7.out (by simp)).lt
      have HBAP := hide hB11
      have HBN := HB11
      obtain ⟨q0, q1, q2, q3, q4⟩ := cell5 HBQ9.out
      have fq := HBQ9.out.frozen
      have f0 := fq 0
      have f1 := fq 1
      have f2 := fq 2
      have f3 := fq 3
      have f4 := fq 4
      have HBN5 := hide (put5 (.int .i64 4) (.int .i64 (x.o + 1)) (.int .i64 (x.l + 1)) (.int .i64 (sm : Int)) (.int .i64 k) HBQ9.out)
      have HKN5 := hide (put5_kept (g := b11) (S := [b11]) (.int .i64 4) (.int .i64 (x.o + 1)) (.int .i64 (x.l + 1)) (.int .i64 (sm : Int)) (.int .i64 k) (Kept.refl [b11] w9) (.inl (by simp)))
      have hll : l.length ≤ 20 := by
        have he := HMTr.out.e
        have hq := HMTr.out.o
        cases down with
        | false =>
          have h := (HMTr.out.up rfl).2
          rw [h] at he
          omega
        | true =>
          have h := (HMTr.out.down rfl).2
          omega
      clear hHeld hB11 fq HST HOK6 HSUM HT HDN2 HAC2 HBY HLW7 HBQ7 HX8 HX9 HAP9 HK9 HK8
      cases down with
      | true =>
        go_wp2
        generalize (((((w9.setCell ⟨b11, 0, none⟩ (.int .i64 4)).setCell ⟨b11, 1, none⟩ (.int .i64 (x.o + 1))).setCell ⟨b11, 2, none⟩ (.int .i64 (x.l + 1))).setCell ⟨b11, 3, none⟩ (.int .i64 (sm : Int))).setCell ⟨b11, 4, none⟩ (.int .i64 k)) = wA at HBN5 HKN5 ⊢
        have hln := HLN.out
        rw [Bool.true_or] at hln
        have hst := HST2.out
        rw [Bool.true_or] at hst
        simp only [Bool.false_eq_true, if_true, if_false] at hln
        refine ⟨⟨j + 1, _, l', E', ⟨x.s, x.o + 1, x.l + 1, (sm : Int), k⟩, true, F2, G2, by omega, by go_num, by rw [hln]; try go_num, rfl, hide hst, hide (HLW9.out.keepS HKN5.out (by simpa using HBAP.out) (by simpa using HBN.out.2.2) (by simpa using HBN.out.2.1)), hide (by rw [HXS.out]; exact HBN5.out), HBAP, HD2⟩, by simp [intOf]; omega⟩
      | false =>
        by_cases hkm : k < x.m
        · have hdc : (false || decide (k < x.m)) = true := by simp [hkm]
          have hdk : decide (k < x.m) = true := decide_eq_true hkm
          go_wp2
          generalize (((((w9.setCell ⟨b11, 0, none⟩ (.int .i64 4)).setCell ⟨b11, 1, none⟩ (.int .i64 (x.o + 1))).setCell ⟨b11, 2, none⟩ (.int .i64 (x.l + 1))).setCell ⟨b11, 3, none⟩ (.int .i64 (sm : Int))).setCell ⟨b11, 4, none⟩ (.int .i64 k)) = wA at HBN5 HKN5 ⊢
          have hln := HLN.out
          rw [hdc] at hln
          have hst := HST2.out
          rw [hdc] at hst
          simp only [Bool.false_eq_true, if_true, if_false] at hln
          refine ⟨⟨j + 1, _, l', E', ⟨x.s, x.o + 1, x.l + 1, (sm : Int), k⟩, true, F2, G2, by omega, by go_num, by rw [hln]; try go_num, rfl, hide hst, hide (HLW9.out.keepS HKN5.out (by simpa using HBAP.out) (by simpa using HBN.out.2.2) (by simpa using HBN.out.2.1)), hide (by rw [HXS.out]; exact HBN5.out), HBAP, HD2⟩, by simp [intOf]; omega⟩
        · have hdc : (false || decide (k < x.m)) = false := by simp [hkm]
          have hdk : decide (k < x.m) = false := decide_eq_false hkm
          go_wp2
          generalize (((((w9.setCell ⟨b11, 0, none⟩ (.int .i64 4)).setCell ⟨b11, 1, none⟩ (.int .i64 (x.o + 1))).setCell ⟨b11, 2, none⟩ (.int .i64 (x.l + 1))).setCell ⟨b11, 3, none⟩ (.int .i64 (sm : Int))).setCell ⟨b11, 4, none⟩ (.int .i64 k)) = wA at HBN5 HKN5 ⊢
          have hln := HLN.out
          rw [hdc] at hln
          have hst := HST2.out
          rw [hdc] at hst
          simp only [Bool.false_eq_true, if_true, if_false] at hln
          refine ⟨⟨j + 1, _, l', E', ⟨x.s, x.o + 1, x.l + 1, (sm : Int), k⟩, false, F2, G2, by omega, by go_num, by rw [hln]; try go_num, rfl, hide hst, hide (HLW9.out.keepS HKN5.out (by simpa using HBAP.out) (by simpa using HBN.out.2.2) (by simpa using HBN.out.2.1)), hide (by rw [HXS.out]; exact HBN5.out), HBAP, HD2⟩, by simp [intOf]; omega⟩
    · obtain rfl : j = n0 := by omega
      have HTOLD := sealed HMTr.out.told
      have heo := HMTr.out.e
      have hll : l.length ≤ 20 := by
        have hq := HMTr.out.o
        cases down with
        | false =>
          have h := (HMTr.out.up rfl).2
          rw [h] at heo
          omega
        | true =>
          have h := (HMTr.out.down rfl).2
          omega
      have HOKD := hide HMTr.out.reads.ok
      have HEO := sealed heo
      clear heo HMTr HBQ
      go_wp2_with fail
      refine (segment_any d g 3 8 40 r q 4 _ HLWr.out.geo (by decide)).mono ?_
      rintro e w6 ⟨xx, rfl, hxx, hsc, hk6⟩
      rw [segAt_in (by decide), HAA.out] at hsc
      have HSC := hide hsc
      have HXX := hide (show xx ∉ F1 ++ G1 ∧ w.heap.size ≤ xx from ⟨fun hm => by have := HLWr.out.dd.lt xx hm; omega, by have := HLWr.out.kept.size; omega⟩)
      have HLW6 := hide (HLWr.out.keep hk6)
      clear hsc hxx hk6 HLWr
      go_wp2_with fail
      refine (walk_any F1 D HOKD.out xx _ _ _ _ _ _ _ l E 0 99 _ HTOLD.out (by omega) (by omega) HSC.out (HLW6.out.dd.dsk 40) (fun y hy => HLW6.out.dd.lt y (by simp [hy])) (fun hm => HXX.out.1 (by simp [hm])) (by have := HN.out; omega) (by omega)).mono ?_
      rintro e w7 ⟨A1, ca, xs1, rfl, _, _, _, hsc1, _, hk7⟩
      have HSC7 := hide hsc1
      have HK7 := hide (HLW6.out.kept.trans hk7 (fun i hi => by simp at hi; subst hi; exact .inr HXX.out.2))
      clear hsc1 hk7 HSC HLW6
      go_wp2_with fail
      refine (end_any xx _ _ _ _ _ _ _ _ HSC7.out).mono ?_
      rintro e w8 ⟨rfl, hk8⟩
      have HK8 := hide (HK7.out.trans hk8 (by simp))
      unfold Ps.val
      have hfl := field_o E w8
      rw [HEO.out] at hfl ⊢
      clear hk8 HK7 HSC7
      go_wp2_with fail
      refine (awake_any _).mono ?_
      rintro e w9 ⟨rfl, hk9⟩
      have HK9 := hide (HK8.out.trans hk9 (by simp))
      clear hk9
      go_wp2
      go_ret
      exact ⟨rfl, HK9.out⟩
end Go.Proofs.YtklcbogjkkfnkaaGreat.sc
