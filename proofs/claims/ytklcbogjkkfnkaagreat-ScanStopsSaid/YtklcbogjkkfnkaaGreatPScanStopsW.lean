/- ScanStops: its walk (made by tools/gen13/gstops.py). -/
import Derived.Test.YtklcbogjkkfnkaaGreatPScanLogMath
import Derived.Test.YtklcbogjkkfnkaaGreatPScanKss
import Derived.Test.YtklcbogjkkfnkaaGreatPOrders
import Derived.Deep.CutRange
namespace Go.Proofs.YtklcbogjkkfnkaaGreat.sc
set_option linter.unusedSimpArgs false
open Go.RowKit Go.Proofs.YtklcbogjkkfnkaaGreat.mem Go.Proofs.YtklcbogjkkfnkaaGreat.base Go.Proofs.YtklcbogjkkfnkaaGreat.disk Go.Proofs.YtklcbogjkkfnkaaGreat.owns
open Go.Proofs.YtklcbogjkkfnkaaGreat.record (Rc RcIn RcAt put5 put5_kept cell5)
open Go.Proofs.YtklcbogjkkfnkaaGreat.geom (GAt Rf segAt)
attribute [local go_sem] Oper.semAt_some
/-- What the loop keeps: the disks, the Config, two places. -/
structure Lo (wr w : World) (F G : List Nat) (d rd g b5 b10 b11 : Nat) (D : Dk) (b s l r q : Int) (p x : Ps) : Prop where
  lw : Lw wr w F G d rd g D b s l r q
  c : Blk wr b5 29 #[.int .i64 b, .int .i64 s, .int .i64 l]
  p : Blk wr b10 24 #[.int .i64 p.s, .int .i64 p.o, .int .i64 p.l, .int .i64 p.v, .int .i64 p.m]
  q : Blk wr b11 24 #[.int .i64 x.s, .int .i64 x.o, .int .i64 x.l, .int .i64 x.v, .int .i64 x.m]
  ap : ∀ y, (y = b5 ∨ y = b10 ∨ y = b11) → y ∉ F ++ G
  new : w.heap.size ≤ b5 ∧ w.heap.size ≤ b10 ∧ w.heap.size ≤ b11
  ne : b5 ≠ b11 ∧ b10 ≠ b11 ∧ g ≠ b11
theorem Lo.keep {wr wr' w : World} {F G : List Nat} {d rd g b5 b10 b11 : Nat} {D : Dk} {b s l r q : Int} {p x : Ps} (h : Lo wr w F G d rd g b5 b10 b11 D b s l r q p x) (k : Kept [] wr wr') : Lo wr' w F G d rd g b5 b10 b11 D b s l r q p x :=
  ⟨h.lw.keep k, k.blk h.c (by simp), k.blk h.p (by simp), k.blk h.q (by simp), h.ap, h.new, h.ne⟩
theorem Lo.put {wr wr' w : World} {F G : List Nat} {d rd g b5 b10 b11 : Nat} {D D' : Dk} {b s l r q : Int} {p x : Ps} (h : Lo wr w F G d rd g b5 b10 b11 D b s l r q p x) (t : DdTo wr wr' F d G rd D') : ∃ F' G', Lo wr' w F' G' d rd g b5 b10 b11 D' b s l r q p x ∧ Kept (F ++ G) wr wr' := by
  obtain ⟨F', G', h1, h2, h3⟩ := h.lw.put t
  exact ⟨F', G', ⟨h1, h3.blk h.c (h.ap _ (.inl rfl)), h3.blk h.p (h.ap _ (.inr (.inl rfl))), h3.blk h.q (h.ap _ (.inr (.inr rfl))), fun y hy => h2 y (h.ap y hy) (by
    rcases hy with rfl | rfl | rfl
    · exact h.c.lt
    · exact h.p.lt
    · exact h.q.lt), h.new, h.ne⟩, h3⟩
/-- The place goes on. -/
theorem Lo.go {wr w : World} {F G : List Nat} {d rd g b5 b10 b11 : Nat} {D : Dk} {b s l r q : Int} {p x : Ps} (h : Lo wr w F G d rd g b5 b10 b11 D b s l r q p x) (y : Ps) : Lo (((((wr.setCell ⟨b11, 0, none⟩ (.int .i64 y.s)).setCell ⟨b11, 1, none⟩ (.int .i64 y.o)).setCell ⟨b11, 2, none⟩ (.int .i64 y.l)).setCell ⟨b11, 3, none⟩ (.int .i64 y.v)).setCell ⟨b11, 4, none⟩ (.int .i64 y.m)) w F G d rd g b5 b10 b11 D b s l r q p y := by
  have hk := put5_kept (g := b11) (S := [b11]) (.int .i64 y.s) (.int .i64 y.o) (.int .i64 y.l) (.int .i64 y.v) (.int .i64 y.m) (Kept.refl [b11] wr) (.inl (by simp))
  have hn := h.ne
  exact ⟨h.lw.keepS hk (by simpa using h.ap b11 (.inr (.inr rfl))) (by simpa using hn.2.2) (by simpa using h.new.2.2), hk.blk h.c (by simpa using hn.1), hk.blk h.p (by simpa using hn.2.1), put5 _ _ _ _ _ h.q, h.ap, h.new, h.ne⟩

set_option maxRecDepth 100000 in
set_option maxHeartbeats 8000000 in
theorem stops_in (A : Option Addr) (n0 c0 : Nat) (kss : List (List Int)) (stop : Int) (w : World) (hv : KsAny w A kss) (hl : kss.length = n0) (h6 : n0 ≤ 6) :
    Calls Tryz.prog 6 #[.slice A n0 c0, .int .i64 stop] w fun e w' => e = .returned (.bool true) ∧ Kept [] w w' := by
  have HV := hide hv
  have HL := hide hl
  have h02 : ¬ (6 : Int) < n0 := by omega
  clear hv hl
  obtain ⟨b5, hb5⟩ : ∃ b5, w.heap.size = b5 := ⟨_, rfl⟩
  obtain ⟨w1, hw1⟩ : ∃ w1, w.alloc (.cells #[.int .i64 3, .int .i64 8, .int .i64 64] 29) = w1 := ⟨_, rfl⟩
  have k1 : Kept [] w w1 := by rw [← hw1]; exact (Kept.refl [] w).alloc _
  have m1 : Blk w1 b5 29 #[.int .i64 3, .int .i64 8, .int .i64 64] := by rw [← hw1, ← hb5]; exact Blk.new w _ _
  have HK1 := hide k1
  have HM1 := hide m1
  obtain ⟨c0, c1, c2⟩ : w1.cell? ⟨b5, 0, none⟩ = some (.int .i64 3) ∧ w1.cell? ⟨b5, 1, none⟩ = some (.int .i64 8) ∧ w1.cell? ⟨b5, 2, none⟩ = some (.int .i64 64) := ⟨m1.cell 0, m1.cell 1, m1.cell 2⟩
  clear k1 m1
  have hnf : ∀ (cap : Array Value) (w : World), (binOp .eql 83 (.func (.func 64) #[] cap) Value.nilFunc).run Tryz.prog w = .ok (.bool false) w := fun _ _ => rfl
  refine (callsIn_wide (n := 3)).1 ?_
  refine callsIn_of_wp_marks Tryz.func6 rfl trivial ?_ rfl
  simp only [Tryz.ntmps6, List.size_toArray, List.length_cons, List.length_nil, Nat.reduceAdd, Nat.reduceSub, Array.replicate_succ, Array.replicate_zero, List.push_toArray, List.append_toArray, List.nil_append, List.cons_append]
  refine wpIn_wide.2 ?_
  go_wp2_with fail
  refine (desk_any 3 8 64 _ (by unfold geom.Ok; omega)).mono ?_
  rintro e w2 ⟨F0, d, G0, rd, g, n, r, q, rfl, hdk⟩
  have hlw := Lw.of_desk HK1.out hdk
  have hbd := hdk.geo.bounds
  have hnn := hdk.hn
  have HRF := hide hdk.geo.rf
  have HM1a := hide (hdk.kept.blk HM1.out (by simp))
  have hbc : b5 ∉ F0 ++ G0 := fun hm => by have h1 := hdk.new _ hm; have h2 := hdk.old; have h3 := HM1.out.lt; omega
  obtain ⟨b10, hb10⟩ : ∃ b10, w2.heap.size = b10 := ⟨_, rfl⟩
  obtain ⟨w3, hw3⟩ : ∃ w3, w2.alloc (.cells #[.int .i64 0, .int .i64 1, .int .i64 1, .int .i64 0, .int .i64 1] 24) = w3 := ⟨_, rfl⟩
  have k3 : Kept [] w2 w3 := by rw [← hw3]; exact (Kept.refl [] w2).alloc _
  have m8 : Blk w3 b10 24 #[.int .i64 0, .int .i64 1, .int .i64 1, .int .i64 0, .int .i64 1] := by rw [← hw3, ← hb10]; exact Blk.new w2 _ _
  have hbp : b10 ∉ F0 ++ G0 := fun hm => by have h1 := hdk.dd.lt _ hm; omega
  obtain ⟨a, haa⟩ : ∃ a : Nat, 2 + 2 * r + 4 * q + 0 * 64 = (a : Int) := ⟨(2 + 2 * r + 4 * q + 0 * 64).toNat, by omega⟩
  have hn4 : 1 ≤ n ∧ n ≤ 4096 := by omega
  have HN := hide (show (a : Int) + 64 ≤ n ∧ a ≤ 4000 by omega)
  obtain ⟨hsg, hdn, hda⟩ := Seg.new n a 64 ⟨0, 1, 1, 0, 1⟩ hn4.1 hn4.2 (by omega) HN.out.1 rfl (by decide)
  obtain ⟨D1, hD1⟩ : ∃ D1, putD (Dk.new n) (a : Int) (headOf ⟨0, 1, 1, 0, 1⟩).bytes = D1 := ⟨_, rfl⟩
  rw [hD1] at hsg hdn hda
  have HD1E := sealed hD1
  have HSG := hide hsg
  have HDN := hide hdn
  have HDA := hide hda
  have HAA := hide haa
  have HD0 := hide (Reads.new n hn4.1 hn4.2)
  have HDNN := hide (show (Dk.new n).n = n by unfold Dk.n Dk.new; simp)
  have HM8 := hide m8
  have HM1b := hide (k3.blk HM1a.out (by simp))
  have HLW := hide (hlw.keep k3)
  have HBC := hide hbc
  have HBP := hide hbp
  have HBNEW := hide (show w.heap.size ≤ b5 ∧ w.heap.size ≤ b10 ∧ b5 ≠ b10 from ⟨by omega, by have := hlw.kept.size; omega, by have := HM1a.out.lt; omega⟩)
  obtain ⟨d0, d1, d2⟩ : w3.cell? ⟨b5, 0, none⟩ = some (.int .i64 3) ∧ w3.cell? ⟨b5, 1, none⟩ = some (.int .i64 8) ∧ w3.cell? ⟨b5, 2, none⟩ = some (.int .i64 64) := ⟨HM1b.out.cell 0, HM1b.out.cell 1, HM1b.out.cell 2⟩
  obtain ⟨p0, p1, p2, p3, p4⟩ := cell5 HM8.out
  clear hD1 c0 c1 c2 k3 m8 hbd haa hnn hn4 hsg hdn hda hlw hbc hbp HM1 HK1 HM1a hdk hw1
  go_wp2_with fail
  refine (khead_any F0 G0 d rd (Dk.new n) ⟨0, 1, 1, 0, 1⟩ 3 8 64 r q a _ HLW.out.dd HD0.out HRF.out (by decide) (by decide) HAA.out (by rw [HDNN.out]; have := HN.out; omega) (by simp [Dk.new])).mono ?_
  rintro e w4 ⟨rfl, hto⟩
  have hto1 : DdTo w3 w4 F0 d G0 rd D1 := by rw [← HD1E.out]; exact hto
  obtain ⟨F, G, hlw4, hap4, hk4⟩ := HLW.out.put hto1
  have HLW4 := hide hlw4
  have HM1c := hide (hk4.blk HM1b.out HBC.out)
  have HM8c := hide (hk4.blk HM8.out HBP.out)
  have HBC4 := hide (hap4 _ HBC.out HM1b.out.lt)
  have HBP4 := hide (hap4 _ HBP.out HM8.out.lt)
  clear hto hto1 hlw4 hap4 hk4 p0 p1 p2 p3 p4 d0 d1 d2 HM1b HM8 HLW HBC HBP hw3 HD0 HDNN
  obtain ⟨p0, p1, p2, p3, p4⟩ := cell5 HM8c.out
  obtain ⟨b11, hb11⟩ : ∃ b11, w4.heap.size = b11 := ⟨_, rfl⟩
  obtain ⟨w5, hw5⟩ : ∃ w5, w4.alloc (.cells #[.int .i64 0, .int .i64 1, .int .i64 1, .int .i64 0, .int .i64 1] 24) = w5 := ⟨_, rfl⟩
  have k5 : Kept [] w4 w5 := by rw [← hw5]; exact (Kept.refl [] w4).alloc _
  have m11 : Blk w5 b11 24 #[.int .i64 0, .int .i64 1, .int .i64 1, .int .i64 0, .int .i64 1] := by rw [← hw5, ← hb11]; exact Blk.new w4 _ _
  have HLO : Hid (Lo w5 w F G d rd g b5 b10 b11 D1 3 8 64 r q ⟨0, 1, 1, 0, 1⟩ ⟨0, 1, 1, 0, 1⟩) := hide ⟨HLW4.out.keep k5, k5.blk HM1c.out (by simp), k5.blk HM8c.out (by simp), m11, fun y hy hm => by
      rcases hy with rfl | rfl | rfl
      · exact HBC4.out hm
      · exact HBP4.out hm
      · have := HLW4.out.dd.lt _ hm; omega, ⟨HBNEW.out.1, HBNEW.out.2.1, by have := HLW4.out.kept.size; omega⟩, ⟨by have := HM1c.out.lt; omega, by have := HM8c.out.lt; omega, by have := HLW4.out.geo.lt; omega⟩⟩
  have HLG := hide (Lg.new HSG.out (by decide))
  clear k5 m11 HM1c HM8c HBC4 HBP4 HLW4 HBNEW
  go_wp2
  clear p0 p1 p2 p3 p4 hw5
  go_loopw [12] (fun i wr => ∃ (j : Nat) (D : Dk) (l : List (Ps × Rc)) (x : Ps) (F1 G1 : List Nat), j ≤ n0 ∧ i = .int .i64 j ∧ Hid (Lg D a ⟨0, 1, 1, 0, 1⟩ l x j) ∧ Hid (Lo wr w F1 G1 d rd g b5 b10 b11 D 3 8 64 r q ⟨0, 1, 1, 0, 1⟩ x) ∧ Hid (D.n = n ∧ D.acts ≤ 10 + 10 * j)) (fun i wr => n0 - (intOf i).toNat)
  case atStart => exact ⟨0, D1, [], ⟨0, 1, 1, 0, 1⟩, F, G, Nat.zero_le _, rfl, HLG, HLO, hide ⟨HDN.out, by rw [HDA.out]; omega⟩⟩
  case round =>
    obtain ⟨j, D, l, x, F1, G1, hj, rfl, HLGr, HLOr, HDr⟩ := hrel
    clear HLG HLO
    by_cases hlt : j < n0
    · obtain ⟨ks, hks⟩ : ∃ ks, kss[j]? = some ks := ⟨_, List.getElem?_eq_getElem (by rw [HL.out]; exact hlt)⟩
      obtain ⟨ad, Ai, ci, rfl, hc0, hvk0⟩ := HV.out.at_ hks
      have hc := HLOr.out.lw.kept.cell hc0 (by simp)
      have HVK0 := hide ((hvk0.away (S' := F1 ++ G1) (fun i hi => .inr (HLOr.out.lw.new i hi))).kept HLOr.out.lw.kept (by simp))
      obtain ⟨nk, hnk⟩ : ∃ nk, ks.length = nk := ⟨_, rfl⟩
      rw [hnk] at hc hc0
      have HC0 := hide hc0
      clear hks hc0 hvk0
      by_cases hbig : 6 < nk
      · have hbi : (6 : Int) < nk := by omega
        go_wp2_with fail
        refine (awake_any _).mono ?_
        rintro e w6 ⟨rfl, hk6⟩
        have HK6 := hide (HLOr.out.lw.kept.trans hk6 (by simp))
        clear hk6
        go_wp2
        exact ⟨_, results_tmp rfl _ _ _, rfl, HK6.out⟩
      · have hbi : ¬ (6 : Int) < nk := by omega
        have hw7 : IntKind.i64.wrap (7 * (j : Int)) = 7 * (j : Int) := IntWalk.i64_in _ (by omega)
        obtain ⟨R, hRk, hpl, hlg, hdn2, hac2⟩ := HLGr.out.log ks (7 * (j : Int)) (by omega) (by omega) (by decide) (by decide)
        have HLG2 := hide hlg
        have HDN2 := hide hdn2
        have HAC2 := hide hac2
        have HPL := sealed hpl
        obtain ⟨c0', c1, c2⟩ : wr.cell? ⟨b5, 0, none⟩ = some (.int .i64 3) ∧ wr.cell? ⟨b5, 1, none⟩ = some (.int .i64 8) ∧ wr.cell? ⟨b5, 2, none⟩ = some (.int .i64 64) := ⟨HLOr.out.c.cell 0, HLOr.out.c.cell 1, HLOr.out.c.cell 2⟩
        obtain ⟨q0, q1, q2, q3, q4⟩ := cell5 HLOr.out.q
        obtain ⟨bl, hbl⟩ : ∃ bl, wr.heap.size = bl := ⟨_, rfl⟩
        obtain ⟨wl, hwl⟩ : ∃ wl, wr.alloc (.cells #[.slice Ai nk ci, .int .i64 (7 * (j : Int)), .int .i64 0, .int .i64 0, .int .i64 0] 65) = wl := ⟨_, rfl⟩
        have kl : Kept [] wr wl := by rw [← hwl]; exact (Kept.refl [] wr).alloc _
        have ml : Blk wl bl 65 #[.slice Ai nk ci, .int .i64 (7 * (j : Int)), .int .i64 0, .int .i64 0, .int .i64 0] := by rw [← hwl, ← hbl]; exact Blk.new wr _ _
        have hblF : bl ∉ F1 ++ G1 := fun hm => by have := HLOr.out.lw.dd.lt _ hm; omega
        have HVL : Hid (Vals wl.drew (F1 ++ G1) (some ⟨bl, 0, none⟩) [.slice Ai nk ci, .int .i64 (7 * (j : Int)), .int .i64 0, .int .i64 0, .int .i64 0]) := hide (Vals.blk 0 ml.drew hblF (fun i v hv => by simpa using hv))
        have HVK : Hid (KrIn wl.drew (F1 ++ G1) [⟨ks, 7 * (j : Int), 0, 0, 0⟩] [.slice Ai nk ci, .int .i64 (7 * (j : Int)), .int .i64 0, .int .i64 0, .int .i64 0]) := hide ⟨Ai, ci, [], by rw [hnk], HVK0.out.kept kl.drew (by simp), rfl⟩
        have HLOl := hide (HLOr.out.keep kl.drew)
        have HS0 := hide (show (fun W => W.cell? ⟨b5, 0, none⟩ = some (.int .i64 3) ∧ W.cell? ⟨b5, 1, none⟩ = some (.int .i64 8) ∧ W.cell? ⟨b5, 2, none⟩ = some (.int .i64 64) ∧ W.cell? (ad.add j) = some (.slice Ai nk ci)) wr.drew from ⟨c0', c1, c2, hc⟩)
        have HSl := hide (show (fun W => W.cell? ⟨b5, 0, none⟩ = some (.int .i64 3) ∧ W.cell? ⟨b5, 1, none⟩ = some (.int .i64 8) ∧ W.cell? ⟨b5, 2, none⟩ = some (.int .i64 64) ∧ W.cell? (ad.add j) = some (.slice Ai nk ci)) wl.drew from ⟨HLOl.out.c.cell 0, HLOl.out.c.cell 1, HLOl.out.c.cell 2, HLOl.out.lw.kept.cell HC0.out (by simp)⟩)
        have HKK := hide (show Kept [] wr wl.drew from kl.drew)
        obtain ⟨ql0, ql1, ql2, ql3, ql4⟩ := cell5 HLOl.out.q
        have HFB := hide (show ∀ D', DdTo wl.drew wl.drew F1 d G1 rd D' → True from fun _ _ => trivial)
        clear kl ml hblF hlg hdn2 hac2 hpl
        go_wp2
        go_cut [9] from 57 to 72 (fun p9 wx => ∃ (F2 G2 : List Nat), p9 = .bool true ∧ Hid (Lo wx w F2 G2 d rd g b5 b10 b11 (logD D a 64 x [⟨ks, 7 * (j : Int), 0, 0, 0⟩]).1 3 8 64 r q ⟨0, 1, 1, 0, 1⟩ (behind x R R.sum)))
        case first =>
          refine wp_region_noPanic ?_
          refine wp_region_held_drew (S := fun W => W.cell? ⟨b5, 0, none⟩ = some (.int .i64 3) ∧ W.cell? ⟨b5, 1, none⟩ = some (.int .i64 8) ∧ W.cell? ⟨b5, 2, none⟩ = some (.int .i64 64) ∧ W.cell? (ad.add j) = some (.slice Ai nk ci)) (by kernel_rfl) (by exact HS0.out) (fun hHeld => ?_)
          refine wpAnyH_take (i := 0) (oi := ⟨some 58, _, _, _, _, _⟩) (v := ?v1) rfl (by kernel_rfl) (by kernel_rfl) (by kernel_rfl) (fun _ _ _ h => h) (Or.inl ⟨by rfl, ?hy1⟩) (by assumption) ?rest1
          case hy1 => (intro W hSw; (try dsimp only at hSw); go_simp; try with_reducible rfl)
          try simp only [Act.put, List.setIfInBounds_toArray, List.set_cons_zero, List.set_cons_succ]
          refine wpAnyH_take (i := 1) (oi := ⟨some 59, _, _, _, _, _⟩) (v := ?v2) rfl (by kernel_rfl) (by kernel_rfl) (by kernel_rfl) (fun _ _ _ h => h) (Or.inl ⟨by rfl, ?hy2⟩) (by assumption) ?rest2
          case hy2 => (intro W hSw; (try dsimp only at hSw); go_simp; try with_reducible rfl)
          try simp only [Act.put, List.setIfInBounds_toArray, List.set_cons_zero, List.set_cons_succ]
          refine wpAnyH_take (i := 2) (oi := ⟨some 60, _, _, _, _, _⟩) (v := ?v3) rfl (by kernel_rfl) (by kernel_rfl) (by kernel_rfl) (fun _ _ _ h => h) (Or.inl ⟨by rfl, ?hy3⟩) (by assumption) ?rest3
          case hy3 => (intro W hSw; (try dsimp only at hSw); go_simp; try with_reducible rfl)
          try simp only [Act.put, List.setIfInBounds_toArray, List.set_cons_zero, List.set_cons_succ]
          refine wpAnyH_take (i := 4) (oi := ⟨some 62, _, _, _, _, _⟩) (v := ?v4) rfl (by kernel_rfl) (by kernel_rfl) (by kernel_rfl) (fun _ _ _ h => h) (Or.inl ⟨by rfl, ?hy4⟩) (by assumption) ?rest4
          case hy4 => (intro W hSw; (try dsimp only at hSw); go_simp; try with_reducible rfl)
          try simp only [Act.put, List.setIfInBounds_toArray, List.set_cons_zero, List.set_cons_succ]
          refine wpAnyH_take (i := 5) (oi := ⟨some 63, _, _, _, _, _⟩) (v := ?v5) rfl (by kernel_rfl) (by kernel_rfl) (by kernel_rfl) (fun _ _ _ h => h) (Or.inl ⟨by rfl, ?hy5⟩) (by assumption) ?rest5
          case hy5 => (intro W hSw; (try dsimp only at hSw); go_simp; try with_reducible rfl)
          try simp only [Act.put, List.setIfInBounds_toArray, List.set_cons_zero, List.set_cons_succ]
          refine wpAnyH_take (i := 6) (oi := ⟨some 64, _, _, _, _, _⟩) (v := ?v6) rfl (by kernel_rfl) (by kernel_rfl) (by kernel_rfl) (fun _ _ _ h => h) (Or.inl ⟨by rfl, ?hy6⟩) (by assumption) ?rest6
          case hy6 => (intro W hSw; (try dsimp only at hSw); go_simp; try with_reducible rfl)
          try simp only [Act.put, List.setIfInBounds_toArray, List.set_cons_zero, List.set_cons_succ]
          refine wpAnyH_take (i := 7) (oi := ⟨some 65, _, _, _, _, _⟩) (v := ?v7) rfl (by kernel_rfl) (by kernel_rfl) (by kernel_rfl) (fun _ _ _ h => h) (Or.inl ⟨by rfl, ?hy7⟩) (by assumption) ?rest7
          case hy7 => (intro W hSw; (try dsimp only at hSw); go_simp; try with_reducible rfl)
          try simp only [Act.put, List.setIfInBounds_toArray, List.set_cons_zero, List.set_cons_succ]
          refine wpAnyH_take (i := 8) (oi := ⟨some 66, _, _, _, _, _⟩) (v := ?v8) rfl (by kernel_rfl) (by kernel_rfl) (by kernel_rfl) (fun _ _ _ h => h) (Or.inl ⟨by rfl, ?hy8⟩) (by assumption) ?rest8
          case hy8 => (intro W hSw; (try dsimp only at hSw); go_simp; try with_reducible rfl)
          try simp only [Act.put, List.setIfInBounds_toArray, List.set_cons_zero, List.set_cons_succ]
          refine wpAnyH_take (i := 9) (oi := ⟨some 67, _, _, _, _, _⟩) (v := ?v9) rfl (by kernel_rfl) (by kernel_rfl) (by kernel_rfl) (fun _ _ _ h => h) (Or.inl ⟨by rfl, ?hy9⟩) (by assumption) ?rest9
          case hy9 => (intro W hSw; (try dsimp only at hSw); go_simp; try with_reducible rfl)
          try simp only [Act.put, List.setIfInBounds_toArray, List.set_cons_zero, List.set_cons_succ]
          refine wpAnyH_take (i := 10) (oi := ⟨some 68, _, _, _, _, _⟩) (v := ?v10) rfl (by kernel_rfl) (by kernel_rfl) (by kernel_rfl) (fun _ _ _ h => h) (Or.inl ⟨by rfl, ?hy10⟩) (by assumption) ?rest10
          case hy10 => (intro W hSw; (try dsimp only at hSw); go_simp; try with_reducible rfl)
          try simp only [Act.put, List.setIfInBounds_toArray, List.set_cons_zero, List.set_cons_succ]
          refine next_two (i := 3) (j := 11) (o := ⟨some 61, _, _, _, _, _⟩) (o' := ⟨some 69, _, _, _, _, _⟩) (by kernel_rfl) rfl (by rfl) rfl (by rfl) (fun K hK => ?_) (fun K hK => ?_)
          · go_simp
            refine hK _ _ (by first | exact HS0.out | exact HSl.out) ?_
            clear hK K
            try simp only [Act.put, List.setIfInBounds_toArray, List.set_cons_zero, List.set_cons_succ]
            refine held_one (i := 11) (o := ⟨some 69, _, _, _, _, _⟩) rfl (by kernel_rfl) (by rfl) (fun K hK => ?_)
            go_simp
            refine hK.out _ _ (by first | exact HSl.out) (fun hHeld => ?_)
            clear hK K
            try simp only [Act.put, List.setIfInBounds_toArray, List.set_cons_zero, List.set_cons_succ]
            refine held_one (i := 12) (o := ⟨some 70, _, _, _, _, _⟩) rfl (by kernel_rfl) (by rfl) (fun K hK => ?_)
            go_simp
            refine (klog_any F1 G1 d rd D x 3 8 64 r q a (some ⟨bl, 0, none⟩) 1 1 [⟨ks, 7 * (j : Int), 0, 0, 0⟩] _ _ HLOl.out.lw.dd HLGr.out.seg.reads HRF.out (by have := HLGr.out.s; rw [this]; decide) (by have := HLGr.out.s; rw [this]; exact HAA.out) (by rw [HDr.out.1]; exact HN.out.1) (by have := HDr.out.2; omega) (HLGr.out.logOk (by omega) (by decide) (by decide)) rfl (by omega) (by intro y hy; simp only [List.mem_cons, List.not_mem_nil, or_false] at hy; subst hy; dsimp only; omega) HVL.out HVK.out).mono ?_
            rintro e w6 ⟨rfl, hto⟩
            rw [HPL.out]
            obtain ⟨F2, G2, hlo6, hk6⟩ := HLOl.out.put hto
            have HLO6 := hide hlo6
            unfold Ps.val
            have HS6 := hide (show (fun W => W.cell? ⟨b5, 0, none⟩ = some (.int .i64 3) ∧ W.cell? ⟨b5, 1, none⟩ = some (.int .i64 8) ∧ W.cell? ⟨b5, 2, none⟩ = some (.int .i64 64) ∧ W.cell? (ad.add j) = some (.slice Ai nk ci)) w6 from ⟨hlo6.c.cell 0, hlo6.c.cell 1, hlo6.c.cell 2, hlo6.lw.kept.cell HC0.out (by simp)⟩)
            obtain ⟨s0, s1, s2, s3, s4⟩ := cell5 hlo6.q
            have fq := hlo6.q.frozen
            have f0 := fq 0
            have f1 := fq 1
            have f2 := fq 2
            have f3 := fq 3
            have f4 := fq 4
            clear hlo6 hto fq
            refine hK.out _ _ (by exact HS6.out) (fun hHeld => ?_)
            clear hK K
            try simp only [Act.put, List.setIfInBounds_toArray, List.set_cons_zero, List.set_cons_succ]
            refine wpAnyH_take (i := 13) (oi := ⟨some 57, _, _, _, _, _⟩) (v := ?v11) rfl (by kernel_rfl) (by kernel_rfl) (by kernel_rfl) (fun _ _ _ h => h) (Or.inl ⟨by rfl, ?hy11⟩) (by assumption) ?rest11
            case hy11 => (intro W hSw; (try dsimp only at hSw); go_simp; try with_reducible rfl)
            try simp only [Act.put, List.setIfInBounds_toArray, List.set_cons_zero, List.set_cons_succ]
            refine wpAnyH_take (i := 14) (oi := ⟨some 71, _, _, _, _, _⟩) (v := ?v12) rfl (by kernel_rfl) (by kernel_rfl) (by kernel_rfl) (fun _ _ _ h => h) (Or.inl ⟨by rfl, ?hy12⟩) (by assumption) ?rest12
            case hy12 => (intro W hSw; (try dsimp only at hSw); go_simp; try with_reducible rfl)
            try simp only [Act.put, List.setIfInBounds_toArray, List.set_cons_zero, List.set_cons_succ]
            refine wpAnyH_take (i := 15) (oi := ⟨some 72, _, _, _, _, _⟩) (v := ?v13) rfl (by kernel_rfl) (by kernel_rfl) (by kernel_rfl) (fun _ _ _ h => h) (Or.inl ⟨by rfl, ?hy13⟩) (by assumption) ?rest13
            case hy13 => (intro W hSw; (try dsimp only at hSw); go_simp; try with_reducible rfl)
            try simp only [Act.put, List.setIfInBounds_toArray, List.set_cons_zero, List.set_cons_succ]
            refine held_one (i := 16) (o := ⟨none, _, _, _, _, _⟩) rfl (by kernel_rfl) (by rfl) (fun K hK => ?_)
            go_simp
            have HLO7 := hide (HLO6.out.go (behind x R R.sum))
            generalize (((((w6.setCell ⟨b11, 0, none⟩ (.int .i64 (behind x R R.sum).s)).setCell ⟨b11, 1, none⟩ (.int .i64 (behind x R R.sum).o)).setCell ⟨b11, 2, none⟩ (.int .i64 (behind x R R.sum).l)).setCell ⟨b11, 3, none⟩ (.int .i64 (behind x R R.sum).v)).setCell ⟨b11, 4, none⟩ (.int .i64 (behind x R R.sum).m)) = w7 at HLO7 ⊢
            have HS7 := hide (show (fun W => W.cell? ⟨b5, 0, none⟩ = some (.int .i64 3) ∧ W.cell? ⟨b5, 1, none⟩ = some (.int .i64 8) ∧ W.cell? ⟨b5, 2, none⟩ = some (.int .i64 64) ∧ W.cell? (ad.add j) = some (.slice Ai nk ci)) w7 from ⟨HLO7.out.c.cell 0, HLO7.out.c.cell 1, HLO7.out.c.cell 2, HLO7.out.lw.kept.cell HC0.out (by simp)⟩)
            refine hK.out _ _ (by exact HS7.out) (fun hHeld => ?_)
            clear hK K
            try simp only [Act.put, List.setIfInBounds_toArray, List.set_cons_zero, List.set_cons_succ]
            refine wpAnyH_take (i := 17) (oi := ⟨some 9, _, _, _, _, _⟩) (v := ?v14) rfl (by kernel_rfl) (by kernel_rfl) (by kernel_rfl) (fun _ _ _ h => h) (Or.inl ⟨by rfl, ?hy14⟩) (by assumption) ?rest14
            case hy14 => (intro W hSw; (try dsimp only at hSw); go_simp; try with_reducible rfl)
            try simp only [Act.put, List.setIfInBounds_toArray, List.set_cons_zero, List.set_cons_succ]
            refine wpAnyH_done (by kernel_rfl) ?_ _
            refine NoPanic.normal ?_
            go_wp2_with fail
            go_meet
            exact ⟨F2, G2, rfl, HLO7⟩
          · go_simp
            refine hK _ _ (by first | exact HSl.out) ?_
            clear hK K
            try simp only [Act.put, List.setIfInBounds_toArray, List.set_cons_zero, List.set_cons_succ]
            refine held_one (i := 3) (o := ⟨some 61, _, _, _, _, _⟩) rfl (by kernel_rfl) (by rfl) (fun K hK => ?_)
            go_simp
            refine hK.out _ _ (by first | exact HS0.out | exact HSl.out) (fun hHeld => ?_)
            clear hK K
            try simp only [Act.put, List.setIfInBounds_toArray, List.set_cons_zero, List.set_cons_succ]
            refine held_one (i := 12) (o := ⟨some 70, _, _, _, _, _⟩) rfl (by kernel_rfl) (by rfl) (fun K hK => ?_)
            go_simp
            refine (klog_any F1 G1 d rd D x 3 8 64 r q a (some ⟨bl, 0, none⟩) 1 1 [⟨ks, 7 * (j : Int), 0, 0, 0⟩] _ _ HLOl.out.lw.dd HLGr.out.seg.reads HRF.out (by have := HLGr.out.s; rw [this]; decide) (by have := HLGr.out.s; rw [this]; exact HAA.out) (by rw [HDr.out.1]; exact HN.out.1) (by have := HDr.out.2; omega) (HLGr.out.logOk (by omega) (by decide) (by decide)) rfl (by omega) (by intro y hy; simp only [List.mem_cons, List.not_mem_nil, or_false] at hy; subst hy; dsimp only; omega) HVL.out HVK.out).mono ?_
            rintro e w6 ⟨rfl, hto⟩
            rw [HPL.out]
            obtain ⟨F2, G2, hlo6, hk6⟩ := HLOl.out.put hto
            have HLO6 := hide hlo6
            unfold Ps.val
            have HS6 := hide (show (fun W => W.cell? ⟨b5, 0, none⟩ = some (.int .i64 3) ∧ W.cell? ⟨b5, 1, none⟩ = some (.int .i64 8) ∧ W.cell? ⟨b5, 2, none⟩ = some (.int .i64 64) ∧ W.cell? (ad.add j) = some (.slice Ai nk ci)) w6 from ⟨hlo6.c.cell 0, hlo6.c.cell 1, hlo6.c.cell 2, hlo6.lw.kept.cell HC0.out (by simp)⟩)
            obtain ⟨s0, s1, s2, s3, s4⟩ := cell5 hlo6.q
            have fq := hlo6.q.frozen
            have f0 := fq 0
            have f1 := fq 1
            have f2 := fq 2
            have f3 := fq 3
            have f4 := fq 4
            clear hlo6 hto fq
            refine hK.out _ _ (by exact HS6.out) (fun hHeld => ?_)
            clear hK K
            try simp only [Act.put, List.setIfInBounds_toArray, List.set_cons_zero, List.set_cons_succ]
            refine wpAnyH_take (i := 13) (oi := ⟨some 57, _, _, _, _, _⟩) (v := ?v15) rfl (by kernel_rfl) (by kernel_rfl) (by kernel_rfl) (fun _ _ _ h => h) (Or.inl ⟨by rfl, ?hy15⟩) (by assumption) ?rest15
            case hy15 => (intro W hSw; (try dsimp only at hSw); go_simp; try with_reducible rfl)
            try simp only [Act.put, List.setIfInBounds_toArray, List.set_cons_zero, List.set_cons_succ]
            refine wpAnyH_take (i := 14) (oi := ⟨some 71, _, _, _, _, _⟩) (v := ?v16) rfl (by kernel_rfl) (by kernel_rfl) (by kernel_rfl) (fun _ _ _ h => h) (Or.inl ⟨by rfl, ?hy16⟩) (by assumption) ?rest16
            case hy16 => (intro W hSw; (try dsimp only at hSw); go_simp; try with_reducible rfl)
            try simp only [Act.put, List.setIfInBounds_toArray, List.set_cons_zero, List.set_cons_succ]
            refine wpAnyH_take (i := 15) (oi := ⟨some 72, _, _, _, _, _⟩) (v := ?v17) rfl (by kernel_rfl) (by kernel_rfl) (by kernel_rfl) (fun _ _ _ h => h) (Or.inl ⟨by rfl, ?hy17⟩) (by assumption) ?rest17
            case hy17 => (intro W hSw; (try dsimp only at hSw); go_simp; try with_reducible rfl)
            try simp only [Act.put, List.setIfInBounds_toArray, List.set_cons_zero, List.set_cons_succ]
            refine held_one (i := 16) (o := ⟨none, _, _, _, _, _⟩) rfl (by kernel_rfl) (by rfl) (fun K hK => ?_)
            go_simp
            have HLO7 := hide (HLO6.out.go (behind x R R.sum))
            generalize (((((w6.setCell ⟨b11, 0, none⟩ (.int .i64 (behind x R R.sum).s)).setCell ⟨b11, 1, none⟩ (.int .i64 (behind x R R.sum).o)).setCell ⟨b11, 2, none⟩ (.int .i64 (behind x R R.sum).l)).setCell ⟨b11, 3, none⟩ (.int .i64 (behind x R R.sum).v)).setCell ⟨b11, 4, none⟩ (.int .i64 (behind x R R.sum).m)) = w7 at HLO7 ⊢
            have HS7 := hide (show (fun W => W.cell? ⟨b5, 0, none⟩ = some (.int .i64 3) ∧ W.cell? ⟨b5, 1, none⟩ = some (.int .i64 8) ∧ W.cell? ⟨b5, 2, none⟩ = some (.int .i64 64) ∧ W.cell? (ad.add j) = some (.slice Ai nk ci)) w7 from ⟨HLO7.out.c.cell 0, HLO7.out.c.cell 1, HLO7.out.c.cell 2, HLO7.out.lw.kept.cell HC0.out (by simp)⟩)
            refine hK.out _ _ (by exact HS7.out) (fun hHeld => ?_)
            clear hK K
            try simp only [Act.put, List.setIfInBounds_toArray, List.set_cons_zero, List.set_cons_succ]
            refine wpAnyH_take (i := 17) (oi := ⟨some 9, _, _, _, _, _⟩) (v := ?v18) rfl (by kernel_rfl) (by kernel_rfl) (by kernel_rfl) (fun _ _ _ h => h) (Or.inl ⟨by rfl, ?hy18⟩) (by assumption) ?rest18
            case hy18 => (intro W hSw; (try dsimp only at hSw); go_simp; try with_reducible rfl)
            try simp only [Act.put, List.setIfInBounds_toArray, List.set_cons_zero, List.set_cons_succ]
            refine wpAnyH_done (by kernel_rfl) ?_ _
            refine NoPanic.normal ?_
            go_wp2_with fail
            go_meet
            exact ⟨F2, G2, rfl, HLO7⟩
        case rest =>
          obtain ⟨F2, G2, rfl, HLO9⟩ := hcut
          clear c0' c1 c2 q0 q1 q2 q3 q4 ql0 ql1 ql2 ql3 ql4 HVL HVK HS0 HSl HLOl HLOr HKK HFB hwl
          go_wp2
          exact ⟨⟨j + 1, _, _, _, F2, G2, by omega, by go_num, HLG2, HLO9, hide ⟨by rw [HDN2.out]; exact HDr.out.1, by have h1 := HAC2.out; have h2 := HDr.out.2; omega⟩⟩, by simp [intOf]; omega⟩
    · obtain rfl : j = n0 := by omega
      have HTOLD := sealed HLGr.out.seg.told
      have hll := HLGr.out.len
      have HLLN := sealed hll
      have HOKD := hide HLGr.out.seg.reads.ok
      obtain ⟨p0, p1, p2, p3, p4⟩ := cell5 HLOr.out.p
      have hrd := round_any stop ((j : Int) + 1)
      obtain ⟨k, hk⟩ : ∃ k, stop % ((j : Int) + 1) = k := ⟨_, rfl⟩
      simp only [hk] at hrd
      have HRD := hide hrd
      clear hrd hk hll
      go_wp2_with fail
      refine (new_any d g 3 8 64 r q ⟨0, 1, 1, 0, 1⟩ _ HLOr.out.lw.geo).mono ?_
      rintro e w6 ⟨xx, rfl, hxx, hsc, hk6⟩
      rw [ofSeg_in (by decide)] at hsc
      dsimp only at hsc
      rw [HAA.out] at hsc
      have HSC6 := hide hsc
      have HLO6 := hide (HLOr.out.keep hk6)
      have HXX := hide (show xx ∉ F1 ++ G1 ∧ w.heap.size ≤ xx ∧ (xx ≠ g ∧ xx ≠ b11) from ⟨fun hm => by have := HLOr.out.lw.dd.lt xx hm; omega, by have := HLOr.out.lw.kept.size; omega, by have := HLOr.out.lw.geo.lt; omega, by have := HLOr.out.q.lt; omega⟩)
      clear hsc hxx hk6 p0 p1 p2 p3 p4 HLOr
      obtain ⟨bn, hbn⟩ : ∃ bn, w6.heap.size = bn := ⟨_, rfl⟩
      go_wp2_with fail
      refine (HRD.out _ (by omega) (by omega)).mono ?_
      rintro e w7 ⟨rfl, rfl⟩
      clear HRD
      go_wp2_with fail
      refine (records_any (some ⟨xx, 0, none⟩) _).mono ?_
      rintro e w8 ⟨rfl, rfl⟩
      have k1 : Kept [] w6 (((w6.alloc (.cells #[.int .i64 0] 3)).alloc (.cells #[.int .i64 k] 3)).alloc (.cells #[.pointer (some ⟨xx, 0, none⟩)] 49)) := (((Kept.refl [] w6).alloc _).alloc _).alloc _
      have B1 := ((Blk.new w6 3 #[.int .i64 0]).alloc (.cells #[.int .i64 k] 3)).alloc (.cells #[.pointer (some ⟨xx, 0, none⟩)] 49)
      have B2 := (Blk.new (w6.alloc (.cells #[.int .i64 0] 3)) 3 #[.int .i64 k]).alloc (.cells #[.pointer (some ⟨xx, 0, none⟩)] 49)
      have B3 := Blk.new ((w6.alloc (.cells #[.int .i64 0] 3)).alloc (.cells #[.int .i64 k] 3)) 49 #[.pointer (some ⟨xx, 0, none⟩)]
      have hsA : (((w6.alloc (.cells #[.int .i64 0] 3)).alloc (.cells #[.int .i64 k] 3)).alloc (.cells #[.pointer (some ⟨xx, 0, none⟩)] 49)).heap.size = bn + 1 + 1 + 1 := by simp [hbn]
      simp only [World.size_alloc] at B2 B3
      rw [hbn] at B1 B2 B3
      have HXB := hide (show xx < bn ∧ b11 < bn ∧ g < bn ∧ (∀ y ∈ F1 ++ G1, y < bn) ∧ w.heap.size ≤ bn from ⟨by have := HSC6.out.lt; omega, by have := HLO6.out.q.lt; omega, by have := HLO6.out.lw.geo.lt; omega, fun y hy => by have := HLO6.out.lw.dd.lt y hy; omega, by have := HLO6.out.lw.kept.size; omega⟩)
      have HK1 := hide k1
      have HB1 := hide B1
      have HB2 := hide B2
      have HB3 := hide B3
      have HSA := hide hsA
      have HBN := hide hbn
      clear k1 B1 B2 B3 hsA
      go_wp2
      generalize (((w6.alloc (.cells #[.int .i64 0] 3)).alloc (.cells #[.int .i64 k] 3)).alloc (.cells #[.pointer (some ⟨xx, 0, none⟩)] 49)) = wA at HK1 HB1 HB2 HB3 HSA ⊢
      refine (wpIn_wide (n := 3)).1 ?_
      refine range_recs (w := wA) (by omega) (gf := 64) (lb := #[.pointer (some ⟨bn + 1 + 1, 0, none⟩)]) rfl (enters_of Tryz.func64 (by kernel_rfl) rfl) rfl l
        (fun I W => ∃ q, W.heap.size ≤ q ∧ I = [q, xx]) [bn] (fun o W => (o = none → ScAt W xx (some ⟨d, 0, none⟩) a 64 ⟨0, 1, 1, 0, 1⟩ false x 0 ∧ Dsk W F1 (some ⟨d, 0, none⟩) 64 D ∧ Kept [xx, bn] wA W) ∧ (∀ pre, o = some pre → ∃ pk ov, After D a 64 l x 0 pre pk 0 ov ∧ pre <+: l ∧ ScAt W xx (some ⟨d, 0, none⟩) a 64 ⟨0, 1, 1, 0, 1⟩ false pk 0 ∧ Dsk W F1 (some ⟨d, 0, none⟩) 64 D ∧ Kept [xx, bn] wA W))
        (fun I pre C W => Blk W bn 3 #[.int .i64 (pre.length : Nat)] ∧ Blk W (bn + 1) 3 #[.int .i64 k] ∧ C = [bn] ∧ bn ∉ I ∧ bn + 1 ∉ I)
        (fun c I pre C W => c = .exit 2 ∧ Blk W bn 3 #[.int .i64 (pre.length : Nat)] ∧ bn ∉ I)
        (fun I pre C W W' S ⟨h1, h2, h3, h4, h5⟩ k hS => ⟨k.blk h1 (fun hm => h4 (hS _ hm)), k.blk h2 (fun hm => h5 (hS _ hm)), h3, h4, h5⟩) (fun _ I pre C W W' S ⟨h1, h2, h3⟩ k hS => ⟨h1, k.blk h2 (fun hm => h3 (hS _ hm)), h3⟩) (fun _ _ _ _ h => by rw [h.2.2.1]; simp; exact h.1.lt) ?hG ?hseq ?hI0 ?hC0 ?h0 ?hround ?hdone ?hstop
      case hG =>
        rintro b W i o o' ⟨hg1, hg2⟩ hi ho hc
        have hput : ∀ (K : Kept [xx, bn] wA W), Kept [xx, bn] wA (W.putObj i o') := fun K => K.trans (kept_put W i o') (fun y hy => by simp at hy; subst hy; exact .inr hi)
        have hx := HXB.out
        have hs := HSA.out
        have hdk : Dsk W F1 (some ⟨d, 0, none⟩) 64 D → Dsk (W.putObj i o') F1 (some ⟨d, 0, none⟩) 64 D := fun h => h.kept (kept_put W i o') (fun y hy hm => by have := hx.2.2.2.1 y (by simp [hy]); simp at hm; omega)
        refine ⟨fun hb => ?_, fun pre hb => ?_⟩
        · obtain ⟨g1, g2, g3⟩ := hg1 hb
          exact ⟨g1.kept (kept_put W i o') (by simp; omega), hdk g2, hput g3⟩
        · obtain ⟨pk, ov, g0, gp, g1, g2, g3⟩ := hg2 pre hb
          exact ⟨pk, ov, g0, gp, g1.kept (kept_put W i o') (by simp; omega), hdk g2, hput g3⟩
      case hseq =>
        intro lp J Jx hJ hJx hJC hY W hK hsz hJ0
        have hx := HXB.out
        have hs := HSA.out
        have hle := hK.size
        refine (recs_any (3 - 1) F1 D HOKD.out lp (bn + 1 + 1) xx (some ⟨d, 0, none⟩) a 64 ⟨0, 1, 1, 0, 1⟩ false ⟨0, 1, 1, 0, 1⟩ 0 l x 0 [] J Jx hJ hJx hJC HTOLD.out (fun q pre C W pk R L m c A k d hj hp hr hl => hY _ pre C W pk R L m c A k d hj hp hr hl) W ((wA.heap.size + 1) :: wA.heap.size :: [bn]) (fun q hq => hJ0 [q, xx] ⟨q, hq, rfl⟩) (by simp) (by simp; omega) ⟨by simp; omega, by simp; omega, fun y hy => by have := hx.2.2.2.1 y (by simp [hy]); simp; omega⟩
          (hK.blk HB3.out (by simp)) ((HSC6.out.kept HK1.out (by simp)).kept hK (by simp)) (((HLO6.out.lw.dd.dsk 64).kept HK1.out (by simp)).kept hK (by simp)) (fun y hy => by have := hx.2.2.2.1 y (by simp [hy]); omega) (fun hm => HXX.out.1 (by simp [hm])) (fun hm => by have := hx.2.2.2.1 _ (show bn + 1 + 1 ∈ F1 ++ G1 by simp [hm]); omega) (by omega) (by have := HN.out; omega) (by omega)).mono ?_
        rintro e W' ⟨hv, hkk, q, C, hap, hd, hor⟩
        have hkw : Kept [xx, bn] wA W' := (hK.mono (S' := [xx, bn]) (by simp)).trans hkk (fun y hy => by
          simp at hy
          rcases hy with h | h | h | h
          · exact .inl (by simp [h])
          · exact .inr (by omega)
          · exact .inr (by omega)
          · exact .inl (by simp [h]))
        rcases hor with ⟨hn, hsc⟩ | ⟨pre, pk, ov, hpp, _, haf, hnx, hsc⟩
        · exact ⟨hv, _, C, .inl ⟨hn, fun _ => ⟨hsc, hd, hkw⟩, fun _ h => by cases h⟩⟩
        · exact ⟨hv, _, C, .inr ⟨pre, hnx, fun h => by (cases h), fun pre' h => by injection h with h; subst h; exact ⟨pk, ov, haf, hpp, hsc, hd, hkw⟩⟩⟩
      case hI0 =>
        rintro I W hk hsz ⟨q, hq, rfl⟩
        have := HXB.out
        have := HSA.out
        simp
        omega
      case hC0 => have := HSA.out; simp; omega
      case h0 =>
        rintro I W hk hsz ⟨q, hq, rfl⟩
        have := HXB.out
        have := HSA.out
        have := hk.size
        refine ⟨hk.blk HB1.out (by simp), hk.blk HB2.out (by simp), rfl, ?_, ?_⟩
        · simp; omega
        · simp; omega
      case hround =>
        rintro lp I pre C pk R L m c A2 k2 d2 W K ⟨b1, b2, rfl, hI, hI2⟩ hpre hrc hIl hKK
        have HKK := hide hKK
        clear hKK
        gi_wp2
        refine HKK.out _ W [bn] (fun y hy => .inl hy) (Kept.refl [] W) ?_
        intro W2 S hk2 hS
        have B1' := hk2.blk b1 (fun hm => hI (hS _ hm))
        have B2' := hk2.blk b2 (fun hm => hI2 (hS _ hm))
        have e1 : W2.cell? ⟨bn, 0, none⟩ = some (.int .i64 (pre.length : Nat)) := B1'.cell 0
        have e2 : W2.cell? ⟨bn + 1, 0, none⟩ = some (.int .i64 k) := B2'.cell 0
        have ef := B1'.frozen 0
        have hplen : pre.length < 10 := by
          have h1 := hpre.length_le
          have h2 := HLLN.out
          simp at h1
          omega
        have hbs := B1'.set_ 0 (.int .i64 ((pre.length : Nat) + 1 : Int))
        have hks := (Kept.refl [bn] W2).set_ (b := bn) (.inl (by simp)) 0 (.int .i64 ((pre.length : Nat) + 1 : Int))
        have HBS := hide hbs
        have HKS := hide hks
        have HB2 := hide B2'
        have HI := hide (show bn ∉ I ∧ bn + 1 ∉ I from ⟨hI, hI2⟩)
        clear b1 b2 hI hI2 hpre hrc hIl HKK hk2 hS B1' B2' hbs hks
        by_cases hge : k ≤ (pre.length : Nat) + 1
        · gi_wp2
          exact ⟨[bn], fun y hy => .inl hy, HKS.out, rfl, by rw [show (((pre ++ [(pk, R)]).length : Nat) : Int) = (pre.length : Int) + 1 by simp]; exact HBS.out, HI.out.1⟩
        · gi_wp2
          exact ⟨[bn], fun y hy => .inl hy, HKS.out, by rw [show (((pre ++ [(pk, R)]).length : Nat) : Int) = (pre.length : Int) + 1 by simp]; exact HBS.out, HKS.out.blk HB2.out (by simp), rfl, HI.out⟩
      case hdone => as_aux_lemma =>
        rintro D2 C W hD2 ⟨I, b1, b2, rfl, hI, hI2⟩ ⟨hg, _⟩ hDC hK
        obtain ⟨hsc, hdk, hkx⟩ := hg rfl
        have hst := HLGr.out.stop (pre := l) (pk := x) (ov := true) (.over rfl rfl)
        obtain ⟨m, hm⟩ : ∃ m, l.length = m := ⟨_, rfl⟩
        have hml : m ≤ j := by have := HLLN.out; omega
        rw [hm] at b1 hst
        obtain ⟨pk, hpk⟩ : ∃ pk, x = pk := ⟨_, rfl⟩
        have hsc : ScAt W xx (some ⟨d, 0, none⟩) a 64 ⟨0, 1, 1, 0, 1⟩ false pk 0 := by rw [← hpk]; exact hsc
        have hst : pk.s = 0 ∧ scanOf D a 64 pk false = (l.drop m, x, 0) := by rw [← hpk]; exact hst
        clear hg hDC hI hI2 b2 hm hpk
        have HPS := sealed hst.1
        have HPSC := sealed hst.2
        have HML := hide hml
        obtain ⟨rr, hrr⟩ : ∃ rr, (l.drop m).length = rr := ⟨_, rfl⟩
        have hjr : (j : Int) - (m : Int) = (rr : Int) := by
          have h1 := HLLN.out
          rw [List.length_drop] at hrr
          omega
        have hr99 : rr ≤ 20 := by omega
        have hmj : m ≤ j := hml
        have hwj : IntKind.i64.wrap ((j : Int) - (m : Int)) = (rr : Int) := by rw [IntWalk.i64_in _ (by omega)]; exact hjr
        have hwr : IntKind.i64.wrap (rr : Int) = (rr : Int) := IntWalk.i64_in _ (by omega)
        have HRR := sealed hrr
        have hx := HXB.out
        have hsA := HSA.out
        have HSC := hide hsc
        have HDK := hide hdk
        have HDT := hide (show D2 ≠ xx ∧ D2 ≠ bn ∧ W.heap[D2]? = some (.deferred (some [])) from ⟨by omega, by omega, hK⟩)
        have HKW := hide ((HLO6.out.lw.kept.trans HK1.out (by simp)).trans hkx (fun i hi => by simp at hi; rcases hi with h | h <;> exact .inr (by have h1 := HXX.out.2.1; have h2 := hx.2.2.2.2; omega)))
        have HGA := hide ((HLO6.out.lw.geo.kept HK1.out).kept hkx (by have h1 := HXX.out.2.2; simp; omega))
        have HB11 := hide (hkx.blk (HK1.out.blk HLO6.out.q (by simp)) (by have h1 := HXX.out.2.2; simp; omega))
        have HBN2 := hide b1
        have HFL := hide (show (∀ y ∈ F1, y < W.heap.size) ∧ (∀ y ∈ F1, y ≠ xx) from ⟨fun y hy => by have := hx.2.2.2.1 y (by simp [hy]); have := b1.lt; omega, fun y hy he => HXX.out.1 (by rw [← he]; simp [hy])⟩)
        clear hst hml hrr hx hsc hdk hkx b1 HLGr HSC6 HLO6 HB1 HB2 HB3 HK1
        go_wp2_with fail
        refine (end_any xx _ _ _ _ _ _ _ _ HSC.out).mono ?_
        rintro e v1 ⟨rfl, hk1⟩
        have HG1 := hide (HGA.out.kept hk1)
        have HSC1 := hide (HSC.out.kept hk1 (by simp))
        have HDK1 := hide (HDK.out.kept hk1 (by simp))
        have HKW1 := hide (HKW.out.trans hk1 (by simp))
        have HB1 := hide (hk1.blk HB11.out (by simp))
        have HBN1 := hide (hk1.blk HBN2.out (by simp))
        have HDT1 := hide (show v1.heap[D2]? = some (.deferred (some [])) from (hk1.block _ (Array.getElem?_eq_some_iff.1 HDT.out.2.2).1 (by simp)).trans HDT.out.2.2)
        have HFL1 := hide hk1.size
        unfold Ps.val
        clear hk1 HGA HSC HDK HKW HB11 HBN2
        go_wp2_with fail
        refine (new_any d g 3 8 64 r q pk _ HG1.out).mono ?_
        rintro e v2 ⟨xr, rfl, hxr, hsr, hk2⟩
        rw [ofSeg_in (by rw [HPS.out]; decide)] at hsr
        try dsimp only at hsr
        rw [HPS.out] at hsr
        try dsimp only at hsr
        rw [HAA.out] at hsr
        have HSR := hide hsr
        have HSC2 := hide (HSC1.out.kept hk2 (by simp))
        have HDK2 := hide (HDK1.out.kept hk2 (by simp))
        have HKW2 := hide (HKW1.out.trans hk2 (by simp))
        have HB2 := hide (hk2.blk HB1.out (by simp))
        have HBN3 := hide (hk2.blk HBN1.out (by simp))
        have HDT2 := hide (show v2.heap[D2]? = some (.deferred (some [])) from (hk2.block _ (Array.getElem?_eq_some_iff.1 HDT1.out).1 (by simp)).trans HDT1.out)
        have HXR := hide (show xr ≠ xx ∧ xr ≠ b11 ∧ xr ≠ bn ∧ xr ≠ D2 ∧ w.heap.size ≤ xr ∧ (∀ y ∈ F1, y < xr) from ⟨by have := HSC1.out.lt; omega, by have := HB1.out.lt; omega, by have := HBN1.out.lt; omega, by have := (Array.getElem?_eq_some_iff.1 HDT1.out).1; omega, by have := HKW1.out.size; omega, fun y hy => by have := HFL.out.1 y hy; have := HFL1.out; omega⟩)
        have HFL2 := hide (show ∀ y ∈ F1, y < v2.heap.size from fun y hy => by have := HFL.out.1 y hy; have := HFL1.out; have := hk2.size; omega)
        clear hsr hxr hk2 HG1 HSC1 HDK1 HKW1 HB1 HBN1 HDT1 HFL1
        go_wp2_with fail
        refine (walk_any F1 D HOKD.out xr _ _ _ _ _ _ _ (l.drop m) x 0 99 _ HPSC.out (by rw [HRR.out]; omega) (by rw [HRR.out]; omega) HSR.out HDK2.out HFL2.out (fun hm => by have := HXR.out.2.2.2.2.2 _ hm; omega) (by have := HN.out; omega) (by omega)).mono ?_
        rintro e v3 ⟨A3, ca3, xs3, rfl, _, _, _, hsr3, hdk3, hk3⟩
        rw [HRR.out]
        have HSR3 := hide hsr3
        have HDK3 := hide hdk3
        have HSC3 := hide (HSC2.out.kept hk3 (by have := HXR.out.1; simpa using fun h => this h.symm))
        have HKW3 := hide (HKW2.out.trans hk3 (fun i hi => by simp at hi; subst hi; exact .inr HXR.out.2.2.2.2.1))
        have HB3 := hide (hk3.blk HB2.out (by have := HXR.out.2.1; simpa using fun h => this h.symm))
        have HBN4 := hide (hk3.blk HBN3.out (by have := HXR.out.2.2.1; simpa using fun h => this h.symm))
        have HDT3 := hide (show v3.heap[D2]? = some (.deferred (some [])) from (hk3.block _ (Array.getElem?_eq_some_iff.1 HDT2.out).1 (by have := HXR.out.2.2.2.1; simpa using fun h => this h.symm)).trans HDT2.out)
        have HFL3 := hide (show ∀ y ∈ F1, y < v3.heap.size from fun y hy => by have := HFL2.out y hy; have := hk3.size; omega)
        clear hsr3 hdk3 hk3 HSR HSC2 HDK2 HKW2 HB2 HBN3 HDT2 HFL2
        go_wp2_with fail
        refine (walk_any F1 D HOKD.out xx _ _ _ _ _ _ _ l x 0 99 _ HTOLD.out (by rw [HLLN.out]; omega) (by rw [HLLN.out]; omega) HSC3.out HDK3.out HFL3.out (fun hm => HFL.out.2 _ hm rfl) (by have := HN.out; omega) (by omega)).mono ?_
        rintro e v4 ⟨A4, ca4, xs4, rfl, _, _, _, hsc4, _, hk4⟩
        rw [HLLN.out]
        have HSC4 := hide hsc4
        have HSR4 := hide (HSR3.out.kept hk4 (by have := HXR.out.1; simpa using this))
        have HKW4 := hide (HKW3.out.trans hk4 (fun i hi => by simp at hi; subst hi; exact .inr HXX.out.2.1))
        obtain ⟨r0, r1, r2, r3, r4⟩ := cell5 (hk4.blk HB3.out (by have := HXX.out; simp; omega))
        have rn : v4.cell? ⟨bn, 0, none⟩ = some (.int .i64 m) := (hk4.blk HBN4.out (by have := HXB.out; simp; omega)).cell 0
        have HDT4 := hide (show v4.heap[D2]? = some (.deferred (some [])) from (hk4.block _ (Array.getElem?_eq_some_iff.1 HDT3.out).1 (by have := HDT.out.1; simpa using this)).trans HDT3.out)
        have heX := fun W => eql_pos x x W
        simp only [decide_true] at heX
        clear hsc4 hk4 HSR3 HKW3 HB3 HBN4 HDT3 HFL3 HDK3 HSC3
        go_wp2
        refine wp_region_noPanic ?_
        refine wp_region_held_drew (S := fun W => Kept [] v4 W ∧ W.cell? ⟨bn, 0, none⟩ = some (.int .i64 m) ∧ W.cell? ⟨b11, 0, none⟩ = some (.int .i64 x.s) ∧ W.cell? ⟨b11, 1, none⟩ = some (.int .i64 x.o) ∧ W.cell? ⟨b11, 2, none⟩ = some (.int .i64 x.l) ∧ W.cell? ⟨b11, 3, none⟩ = some (.int .i64 x.v) ∧ W.cell? ⟨b11, 4, none⟩ = some (.int .i64 x.m)) (by kernel_rfl) (by exact ⟨(Kept.refl _ v4).drew, rn, r0, r1, r2, r3, r4⟩) (fun hHeld => ?_)
        refine wpAnyH_take (i := 0) (oi := ⟨some 111, _, _, _, _, _⟩) (v := ?v19) rfl (by kernel_rfl) (by kernel_rfl) (by kernel_rfl) (fun _ _ _ h => h) (Or.inl ⟨by rfl, ?hy19⟩) (by assumption) ?rest19
        case hy19 => (intro W hSw; (try dsimp only at hSw); go_simp; try with_reducible rfl)
        try simp only [Act.put, List.setIfInBounds_toArray, List.set_cons_zero, List.set_cons_succ]
        refine wpAnyH_take (i := 1) (oi := ⟨some 112, _, _, _, _, _⟩) (v := ?v20) rfl (by kernel_rfl) (by kernel_rfl) (by kernel_rfl) (fun _ _ _ h => h) (Or.inl ⟨by rfl, ?hy20⟩) (by assumption) ?rest20
        case hy20 => (intro W hSw; (try dsimp only at hSw); go_simp; try with_reducible rfl)
        try simp only [Act.put, List.setIfInBounds_toArray, List.set_cons_zero, List.set_cons_succ]
        refine wpAnyH_take (i := 2) (oi := ⟨some 113, _, _, _, _, _⟩) (v := ?v21) rfl (by kernel_rfl) (by kernel_rfl) (by kernel_rfl) (fun _ _ _ h => h) (Or.inl ⟨by rfl, ?hy21⟩) (by assumption) ?rest21
        case hy21 => (intro W hSw; (try dsimp only at hSw); go_simp; try with_reducible rfl)
        try simp only [Act.put, List.setIfInBounds_toArray, List.set_cons_zero, List.set_cons_succ]
        refine wpAnyH_take (i := 3) (oi := ⟨some 114, _, _, _, _, _⟩) (v := ?v22) rfl (by kernel_rfl) (by kernel_rfl) (by kernel_rfl) (fun _ _ _ h => h) (Or.inl ⟨by rfl, ?hy22⟩) (by assumption) ?rest22
        case hy22 => (intro W hSw; (try dsimp only at hSw); go_simp; try with_reducible rfl)
        try simp only [Act.put, List.setIfInBounds_toArray, List.set_cons_zero, List.set_cons_succ]
        refine wpAnyH_take (i := 4) (oi := ⟨some 115, _, _, _, _, _⟩) (v := ?v23) rfl (by kernel_rfl) (by kernel_rfl) (by kernel_rfl) (fun _ _ _ h => h) (Or.inl ⟨by rfl, ?hy23⟩) (by assumption) ?rest23
        case hy23 => (intro W hSw; (try dsimp only at hSw); go_simp; try with_reducible rfl)
        try simp only [Act.put, List.setIfInBounds_toArray, List.set_cons_zero, List.set_cons_succ]
        refine wpAnyH_take (i := 5) (oi := ⟨some 116, _, _, _, _, _⟩) (v := ?v24) rfl (by kernel_rfl) (by kernel_rfl) (by kernel_rfl) (fun _ _ _ h => h) (Or.inl ⟨by rfl, ?hy24⟩) (by assumption) ?rest24
        case hy24 => (intro W hSw; (try dsimp only at hSw); go_simp; try with_reducible rfl)
        try simp only [Act.put, List.setIfInBounds_toArray, List.set_cons_zero, List.set_cons_succ]
        refine wpAnyH_take (i := 6) (oi := ⟨some 117, _, _, _, _, _⟩) (v := ?v25) rfl (by kernel_rfl) (by kernel_rfl) (by kernel_rfl) (fun _ _ _ h => h) (Or.inl ⟨by rfl, ?hy25⟩) (by assumption) ?rest25
        case hy25 => (intro W hSw; (try dsimp only at hSw); go_simp; try with_reducible rfl)
        try simp only [Act.put, List.setIfInBounds_toArray, List.set_cons_zero, List.set_cons_succ]
        refine wpAnyH_take (i := 7) (oi := ⟨some 118, _, _, _, _, _⟩) (v := ?v26) rfl (by kernel_rfl) (by kernel_rfl) (by kernel_rfl) (fun _ _ _ h => h) (Or.inl ⟨by rfl, ?hy26⟩) (by assumption) ?rest26
        case hy26 => (intro W hSw; (try dsimp only at hSw); go_simp; try with_reducible rfl)
        try simp only [Act.put, List.setIfInBounds_toArray, List.set_cons_zero, List.set_cons_succ]
        refine wpAnyH_take (i := 8) (oi := ⟨some 119, _, _, _, _, _⟩) (v := ?v27) rfl (by kernel_rfl) (by kernel_rfl) (by kernel_rfl) (fun _ _ _ h => h) (Or.inl ⟨by rfl, ?hy27⟩) (by assumption) ?rest27
        case hy27 => (intro W hSw; (try dsimp only at hSw); go_simp; try with_reducible rfl)
        try simp only [Act.put, List.setIfInBounds_toArray, List.set_cons_zero, List.set_cons_succ]
        refine wpAnyH_take (i := 9) (oi := ⟨some 120, _, _, _, _, _⟩) (v := ?v28) rfl (by kernel_rfl) (by kernel_rfl) (by kernel_rfl) (fun _ _ _ h => h) (Or.inl ⟨by rfl, ?hy28⟩) (by assumption) ?rest28
        case hy28 => (intro W hSw; (try dsimp only at hSw); go_simp; try with_reducible rfl)
        try simp only [Act.put, List.setIfInBounds_toArray, List.set_cons_zero, List.set_cons_succ]
        refine wpAnyH_take (i := 10) (oi := ⟨some 121, _, _, _, _, _⟩) (v := ?v29) rfl (by kernel_rfl) (by kernel_rfl) (by kernel_rfl) (fun _ _ _ h => h) (Or.inl ⟨by rfl, ?hy29⟩) (by assumption) ?rest29
        case hy29 => (intro W hSw; (try dsimp only at hSw); go_simp; try with_reducible rfl)
        try simp only [Act.put, List.setIfInBounds_toArray, List.set_cons_zero, List.set_cons_succ]
        refine wpAnyH_take (i := 11) (oi := ⟨some 122, _, _, _, _, _⟩) (v := ?v30) rfl (by kernel_rfl) (by kernel_rfl) (by kernel_rfl) (fun _ _ _ h => h) (Or.inl ⟨by rfl, ?hy30⟩) (by assumption) ?rest30
        case hy30 => (intro W hSw; (try dsimp only at hSw); go_simp; try with_reducible rfl)
        try simp only [Act.put, List.setIfInBounds_toArray, List.set_cons_zero, List.set_cons_succ]
        refine wpAnyH_take (i := 12) (oi := ⟨some 123, _, _, _, _, _⟩) (v := ?v31) rfl (by kernel_rfl) (by kernel_rfl) (by kernel_rfl) (fun _ _ _ h => h) (Or.inl ⟨by rfl, ?hy31⟩) (by assumption) ?rest31
        case hy31 => (intro W hSw; (try dsimp only at hSw); go_simp; try with_reducible rfl)
        try simp only [Act.put, List.setIfInBounds_toArray, List.set_cons_zero, List.set_cons_succ]
        refine wpAnyH_take (i := 13) (oi := ⟨some 124, _, _, _, _, _⟩) (v := ?v32) rfl (by kernel_rfl) (by kernel_rfl) (by kernel_rfl) (fun _ _ _ h => h) (Or.inl ⟨by rfl, ?hy32⟩) (by assumption) ?rest32
        case hy32 => (intro W hSw; (try dsimp only at hSw); go_simp; try with_reducible rfl)
        try simp only [Act.put, List.setIfInBounds_toArray, List.set_cons_zero, List.set_cons_succ]
        refine wpAnyH_take (i := 15) (oi := ⟨some 126, _, _, _, _, _⟩) (v := ?v33) rfl (by kernel_rfl) (by kernel_rfl) (by kernel_rfl) (fun _ _ _ h => h) (Or.inl ⟨by rfl, ?hy33⟩) (by assumption) ?rest33
        case hy33 => (intro W hSw; (try dsimp only at hSw); go_simp; try with_reducible rfl)
        try simp only [Act.put, List.setIfInBounds_toArray, List.set_cons_zero, List.set_cons_succ]
        refine held_one (i := 14) (o := ⟨some 125, _, _, _, _, _⟩) rfl (by kernel_rfl) (by rfl) (fun K hK => ?_)
        go_simp
        refine (end_any xx _ _ _ _ _ _ _ _ (HSC4.out.kept hHeld.1 (by simp))).mono ?_
        rintro e v5 ⟨rfl, hk5⟩
        unfold Ps.val
        have HX5 := hide (show (fun W => Kept [] v4 W ∧ W.cell? ⟨bn, 0, none⟩ = some (.int .i64 m) ∧ W.cell? ⟨b11, 0, none⟩ = some (.int .i64 x.s) ∧ W.cell? ⟨b11, 1, none⟩ = some (.int .i64 x.o) ∧ W.cell? ⟨b11, 2, none⟩ = some (.int .i64 x.l) ∧ W.cell? ⟨b11, 3, none⟩ = some (.int .i64 x.v) ∧ W.cell? ⟨b11, 4, none⟩ = some (.int .i64 x.m)) v5 from ⟨hHeld.1.trans hk5 (by simp), hk5.cell hHeld.2.1 (by simp), awk5 hHeld.2.2 hk5⟩)
        refine hK.out _ _ (by exact HX5.out) (fun hHeld => ?_)
        clear hK K
        try simp only [Act.put, List.setIfInBounds_toArray, List.set_cons_zero, List.set_cons_succ]
        refine wpAnyH_take (i := 16) (oi := ⟨some 127, _, _, _, _, _⟩) (v := ?v34) rfl (by kernel_rfl) (by kernel_rfl) (by kernel_rfl) (fun _ _ _ h => h) (Or.inl ⟨by rfl, ?hy34⟩) (by assumption) ?rest34
        case hy34 => (intro W hSw; (try dsimp only at hSw); go_simp; try with_reducible rfl)
        try simp only [Act.put, List.setIfInBounds_toArray, List.set_cons_zero, List.set_cons_succ]
        refine wpAnyH_take (i := 17) (oi := ⟨some 128, _, _, _, _, _⟩) (v := ?v35) rfl (by kernel_rfl) (by kernel_rfl) (by kernel_rfl) (fun _ _ _ h => h) (Or.inl ⟨by rfl, ?hy35⟩) (by assumption) ?rest35
        case hy35 => (intro W hSw; (try dsimp only at hSw); go_simp; try with_reducible rfl)
        try simp only [Act.put, List.setIfInBounds_toArray, List.set_cons_zero, List.set_cons_succ]
        refine wpAnyH_take (i := 18) (oi := ⟨some 129, _, _, _, _, _⟩) (v := ?v36) rfl (by kernel_rfl) (by kernel_rfl) (by kernel_rfl) (fun _ _ _ h => h) (Or.inl ⟨by rfl, ?hy36⟩) (by assumption) ?rest36
        case hy36 => (intro W hSw; (try dsimp only at hSw); go_simp; try with_reducible rfl)
        try simp only [Act.put, List.setIfInBounds_toArray, List.set_cons_zero, List.set_cons_succ]
        refine wpAnyH_take (i := 19) (oi := ⟨some 130, _, _, _, _, _⟩) (v := ?v37) rfl (by kernel_rfl) (by kernel_rfl) (by kernel_rfl) (fun _ _ _ h => h) (Or.inl ⟨by rfl, ?hy37⟩) (by assumption) ?rest37
        case hy37 => (intro W hSw; (try dsimp only at hSw); go_simp; try with_reducible rfl)
        try simp only [Act.put, List.setIfInBounds_toArray, List.set_cons_zero, List.set_cons_succ]
        refine wpAnyH_take (i := 21) (oi := ⟨some 132, _, _, _, _, _⟩) (v := ?v38) rfl (by kernel_rfl) (by kernel_rfl) (by kernel_rfl) (fun _ _ _ h => h) (Or.inl ⟨by rfl, ?hy38⟩) (by assumption) ?rest38
        case hy38 => (intro W hSw; (try dsimp only at hSw); go_simp; try with_reducible rfl)
        try simp only [Act.put, List.setIfInBounds_toArray, List.set_cons_zero, List.set_cons_succ]
        refine held_one (i := 20) (o := ⟨some 131, _, _, _, _, _⟩) rfl (by kernel_rfl) (by rfl) (fun K hK => ?_)
        go_simp
        refine (end_any xr _ _ _ _ _ _ _ _ (HSR4.out.kept hHeld.1 (by simp))).mono ?_
        rintro e v6 ⟨rfl, hk6⟩
        unfold Ps.val
        have HX6 := hide (show (fun W => Kept [] v4 W ∧ W.cell? ⟨bn, 0, none⟩ = some (.int .i64 m) ∧ W.cell? ⟨b11, 0, none⟩ = some (.int .i64 x.s) ∧ W.cell? ⟨b11, 1, none⟩ = some (.int .i64 x.o) ∧ W.cell? ⟨b11, 2, none⟩ = some (.int .i64 x.l) ∧ W.cell? ⟨b11, 3, none⟩ = some (.int .i64 x.v) ∧ W.cell? ⟨b11, 4, none⟩ = some (.int .i64 x.m)) v6 from ⟨hHeld.1.trans hk6 (by simp), hk6.cell hHeld.2.1 (by simp), awk5 hHeld.2.2 hk6⟩)
        refine hK.out _ _ (by exact HX6.out) (fun hHeld => ?_)
        clear hK K
        try simp only [Act.put, List.setIfInBounds_toArray, List.set_cons_zero, List.set_cons_succ]
        refine wpAnyH_take (i := 22) (oi := ⟨some 133, _, _, _, _, _⟩) (v := ?v39) rfl (by kernel_rfl) (by kernel_rfl) (by kernel_rfl) (fun _ _ _ h => h) (Or.inl ⟨by rfl, ?hy39⟩) (by assumption) ?rest39
        case hy39 => (intro W hSw; (try dsimp only at hSw); go_simp; try with_reducible rfl)
        try simp only [Act.put, List.setIfInBounds_toArray, List.set_cons_zero, List.set_cons_succ]
        refine wpAnyH_take (i := 23) (oi := ⟨some 134, _, _, _, _, _⟩) (v := ?v40) rfl (by kernel_rfl) (by kernel_rfl) (by kernel_rfl) (fun _ _ _ h => h) (Or.inl ⟨by rfl, ?hy40⟩) (by assumption) ?rest40
        case hy40 => (intro W hSw; (try dsimp only at hSw); go_simp; try with_reducible rfl)
        try simp only [Act.put, List.setIfInBounds_toArray, List.set_cons_zero, List.set_cons_succ]
        refine wpAnyH_take (i := 24) (oi := ⟨some 135, _, _, _, _, _⟩) (v := ?v41) rfl (by kernel_rfl) (by kernel_rfl) (by kernel_rfl) (fun _ _ _ h => h) (Or.inl ⟨by rfl, ?hy41⟩) (by assumption) ?rest41
        case hy41 => (intro W hSw; (try dsimp only at hSw); go_simp; try with_reducible rfl)
        try simp only [Act.put, List.setIfInBounds_toArray, List.set_cons_zero, List.set_cons_succ]
        refine held_one (i := 25) (o := ⟨some 136, _, _, _, _, _⟩) rfl (by kernel_rfl) (by rfl) (fun K hK => ?_)
        go_simp
        refine (awake_any _).mono ?_
        rintro e v7 ⟨rfl, hk7⟩
        have HX7 := hide (show (fun W => Kept [] v4 W ∧ W.cell? ⟨bn, 0, none⟩ = some (.int .i64 m) ∧ W.cell? ⟨b11, 0, none⟩ = some (.int .i64 x.s) ∧ W.cell? ⟨b11, 1, none⟩ = some (.int .i64 x.o) ∧ W.cell? ⟨b11, 2, none⟩ = some (.int .i64 x.l) ∧ W.cell? ⟨b11, 3, none⟩ = some (.int .i64 x.v) ∧ W.cell? ⟨b11, 4, none⟩ = some (.int .i64 x.m)) v7 from ⟨hHeld.1.trans hk7 (by simp), hk7.cell hHeld.2.1 (by simp), awk5 hHeld.2.2 hk7⟩)
        refine hK.out _ _ (by exact HX7.out) (fun hHeld => ?_)
        clear hK K
        try simp only [Act.put, List.setIfInBounds_toArray, List.set_cons_zero, List.set_cons_succ]
        refine wpAnyH_take (i := 26) (oi := ⟨some 137, _, _, _, _, _⟩) (v := ?v42) rfl (by kernel_rfl) (by kernel_rfl) (by kernel_rfl) (fun _ _ _ h => h) (Or.inl ⟨by rfl, ?hy42⟩) (by assumption) ?rest42
        case hy42 => (intro W hSw; (try dsimp only at hSw); go_simp; try with_reducible rfl)
        try simp only [Act.put, List.setIfInBounds_toArray, List.set_cons_zero, List.set_cons_succ]
        refine wpAnyH_take (i := 27) (oi := ⟨some 4, _, _, _, _, _⟩) (v := ?v43) rfl (by kernel_rfl) (by kernel_rfl) (by kernel_rfl) (fun _ _ _ h => h) (Or.inl ⟨by rfl, ?hy43⟩) (by assumption) ?rest43
        case hy43 => (intro W hSw; (try dsimp only at hSw); go_simp; try with_reducible rfl)
        try simp only [Act.put, List.setIfInBounds_toArray, List.set_cons_zero, List.set_cons_succ]
        refine wpAnyH_done (by kernel_rfl) ?_ _
        refine NoPanic.normal ?_
        have HKF := hide hHeld.1
        clear hHeld
        go_wp2
        refine ⟨by simp, .inl ⟨_, _, rfl, run_takeDeferred ((HKF.out.block _ (Array.getElem?_eq_some_iff.1 HDT4.out).1 (by simp)).trans HDT4.out), ?_⟩⟩
        exact ⟨_, results_tmp rfl _ _ _, rfl, (HKW4.out.trans HKF.out (by simp)).trans (kept_put _ D2 (.deferred none)) (fun y hy => by simp at hy; subst hy; exact .inr (by have h1 := HXB.out; have h2 := HSA.out; omega))⟩
      case hstop => as_aux_lemma =>
        rintro D2 C c pre W hD2 ⟨I, rfl, b1, hI⟩ ⟨_, hg⟩ hDC hK
        obtain ⟨pk, ov, haf, hpp, hsc, hdk, hkx⟩ := hg pre rfl
        have hst0 := HLGr.out.stop haf
        have hpl := hpp.length_le
        obtain ⟨m, hm⟩ : ∃ m, pre.length = m := ⟨_, rfl⟩
        have hml : m ≤ j := by have := HLLN.out; omega
        rw [hm] at b1 hst0
        have hst : pk.s = 0 ∧ scanOf D a 64 pk false = (l.drop m, x, 0) := hst0
        clear hg hDC hI hm haf hpp hpl hst0
        have HPS := sealed hst.1
        have HPSC := sealed hst.2
        have HML := hide hml
        obtain ⟨rr, hrr⟩ : ∃ rr, (l.drop m).length = rr := ⟨_, rfl⟩
        have hjr : (j : Int) - (m : Int) = (rr : Int) := by
          have h1 := HLLN.out
          rw [List.length_drop] at hrr
          omega
        have hr99 : rr ≤ 20 := by omega
        have hmj : m ≤ j := hml
        have hwj : IntKind.i64.wrap ((j : Int) - (m : Int)) = (rr : Int) := by rw [IntWalk.i64_in _ (by omega)]; exact hjr
        have hwr : IntKind.i64.wrap (rr : Int) = (rr : Int) := IntWalk.i64_in _ (by omega)
        have HRR := sealed hrr
        have hx := HXB.out
        have hsA := HSA.out
        have HSC := hide hsc
        have HDK := hide hdk
        have HDT := hide (show D2 ≠ xx ∧ D2 ≠ bn ∧ W.heap[D2]? = some (.deferred (some [])) from ⟨by omega, by omega, hK⟩)
        have HKW := hide ((HLO6.out.lw.kept.trans HK1.out (by simp)).trans hkx (fun i hi => by simp at hi; rcases hi with h | h <;> exact .inr (by have h1 := HXX.out.2.1; have h2 := hx.2.2.2.2; omega)))
        have HGA := hide ((HLO6.out.lw.geo.kept HK1.out).kept hkx (by have h1 := HXX.out.2.2; simp; omega))
        have HB11 := hide (hkx.blk (HK1.out.blk HLO6.out.q (by simp)) (by have h1 := HXX.out.2.2; simp; omega))
        have HBN2 := hide b1
        have HFL := hide (show (∀ y ∈ F1, y < W.heap.size) ∧ (∀ y ∈ F1, y ≠ xx) from ⟨fun y hy => by have := hx.2.2.2.1 y (by simp [hy]); have := b1.lt; omega, fun y hy he => HXX.out.1 (by rw [← he]; simp [hy])⟩)
        clear hst hml hrr hx hsc hdk hkx b1 HLGr HSC6 HLO6 HB1 HB2 HB3 HK1
        refine wpIn_wide.2 ?_
        go_wp2_with fail
        refine (end_any xx _ _ _ _ _ _ _ _ HSC.out).mono ?_
        rintro e v1 ⟨rfl, hk1⟩
        have HG1 := hide (HGA.out.kept hk1)
        have HSC1 := hide (HSC.out.kept hk1 (by simp))
        have HDK1 := hide (HDK.out.kept hk1 (by simp))
        have HKW1 := hide (HKW.out.trans hk1 (by simp))
        have HB1 := hide (hk1.blk HB11.out (by simp))
        have HBN1 := hide (hk1.blk HBN2.out (by simp))
        have HDT1 := hide (show v1.heap[D2]? = some (.deferred (some [])) from (hk1.block _ (Array.getElem?_eq_some_iff.1 HDT.out.2.2).1 (by simp)).trans HDT.out.2.2)
        have HFL1 := hide hk1.size
        unfold Ps.val
        clear hk1 HGA HSC HDK HKW HB11 HBN2
        go_wp2_with fail
        refine (new_any d g 3 8 64 r q pk _ HG1.out).mono ?_
        rintro e v2 ⟨xr, rfl, hxr, hsr, hk2⟩
        rw [ofSeg_in (by rw [HPS.out]; decide)] at hsr
        try dsimp only at hsr
        rw [HPS.out] at hsr
        try dsimp only at hsr
        rw [HAA.out] at hsr
        have HSR := hide hsr
        have HSC2 := hide (HSC1.out.kept hk2 (by simp))
        have HDK2 := hide (HDK1.out.kept hk2 (by simp))
        have HKW2 := hide (HKW1.out.trans hk2 (by simp))
        have HB2 := hide (hk2.blk HB1.out (by simp))
        have HBN3 := hide (hk2.blk HBN1.out (by simp))
        have HDT2 := hide (show v2.heap[D2]? = some (.deferred (some [])) from (hk2.block _ (Array.getElem?_eq_some_iff.1 HDT1.out).1 (by simp)).trans HDT1.out)
        have HXR := hide (show xr ≠ xx ∧ xr ≠ b11 ∧ xr ≠ bn ∧ xr ≠ D2 ∧ w.heap.size ≤ xr ∧ (∀ y ∈ F1, y < xr) from ⟨by have := HSC1.out.lt; omega, by have := HB1.out.lt; omega, by have := HBN1.out.lt; omega, by have := (Array.getElem?_eq_some_iff.1 HDT1.out).1; omega, by have := HKW1.out.size; omega, fun y hy => by have := HFL.out.1 y hy; have := HFL1.out; omega⟩)
        have HFL2 := hide (show ∀ y ∈ F1, y < v2.heap.size from fun y hy => by have := HFL.out.1 y hy; have := HFL1.out; have := hk2.size; omega)
        clear hsr hxr hk2 HG1 HSC1 HDK1 HKW1 HB1 HBN1 HDT1 HFL1
        go_wp2_with fail
        refine (walk_any F1 D HOKD.out xr _ _ _ _ _ _ _ (l.drop m) x 0 99 _ HPSC.out (by rw [HRR.out]; omega) (by rw [HRR.out]; omega) HSR.out HDK2.out HFL2.out (fun hm => by have := HXR.out.2.2.2.2.2 _ hm; omega) (by have := HN.out; omega) (by omega)).mono ?_
        rintro e v3 ⟨A3, ca3, xs3, rfl, _, _, _, hsr3, hdk3, hk3⟩
        rw [HRR.out]
        have HSR3 := hide hsr3
        have HDK3 := hide hdk3
        have HSC3 := hide (HSC2.out.kept hk3 (by have := HXR.out.1; simpa using fun h => this h.symm))
        have HKW3 := hide (HKW2.out.trans hk3 (fun i hi => by simp at hi; subst hi; exact .inr HXR.out.2.2.2.2.1))
        have HB3 := hide (hk3.blk HB2.out (by have := HXR.out.2.1; simpa using fun h => this h.symm))
        have HBN4 := hide (hk3.blk HBN3.out (by have := HXR.out.2.2.1; simpa using fun h => this h.symm))
        have HDT3 := hide (show v3.heap[D2]? = some (.deferred (some [])) from (hk3.block _ (Array.getElem?_eq_some_iff.1 HDT2.out).1 (by have := HXR.out.2.2.2.1; simpa using fun h => this h.symm)).trans HDT2.out)
        have HFL3 := hide (show ∀ y ∈ F1, y < v3.heap.size from fun y hy => by have := HFL2.out y hy; have := hk3.size; omega)
        clear hsr3 hdk3 hk3 HSR HSC2 HDK2 HKW2 HB2 HBN3 HDT2 HFL2
        go_wp2_with fail
        refine (walk_any F1 D HOKD.out xx _ _ _ _ _ _ _ l x 0 99 _ HTOLD.out (by rw [HLLN.out]; omega) (by rw [HLLN.out]; omega) HSC3.out HDK3.out HFL3.out (fun hm => HFL.out.2 _ hm rfl) (by have := HN.out; omega) (by omega)).mono ?_
        rintro e v4 ⟨A4, ca4, xs4, rfl, _, _, _, hsc4, _, hk4⟩
        rw [HLLN.out]
        have HSC4 := hide hsc4
        have HSR4 := hide (HSR3.out.kept hk4 (by have := HXR.out.1; simpa using this))
        have HKW4 := hide (HKW3.out.trans hk4 (fun i hi => by simp at hi; subst hi; exact .inr HXX.out.2.1))
        obtain ⟨r0, r1, r2, r3, r4⟩ := cell5 (hk4.blk HB3.out (by have := HXX.out; simp; omega))
        have rn : v4.cell? ⟨bn, 0, none⟩ = some (.int .i64 m) := (hk4.blk HBN4.out (by have := HXB.out; simp; omega)).cell 0
        have HDT4 := hide (show v4.heap[D2]? = some (.deferred (some [])) from (hk4.block _ (Array.getElem?_eq_some_iff.1 HDT3.out).1 (by have := HDT.out.1; simpa using this)).trans HDT3.out)
        have heX := fun W => eql_pos x x W
        simp only [decide_true] at heX
        clear hsc4 hk4 HSR3 HKW3 HB3 HBN4 HDT3 HFL3 HDK3 HSC3
        go_wp2
        refine wp_region_noPanic ?_
        refine wp_region_held_drew (S := fun W => Kept [] v4 W ∧ W.cell? ⟨bn, 0, none⟩ = some (.int .i64 m) ∧ W.cell? ⟨b11, 0, none⟩ = some (.int .i64 x.s) ∧ W.cell? ⟨b11, 1, none⟩ = some (.int .i64 x.o) ∧ W.cell? ⟨b11, 2, none⟩ = some (.int .i64 x.l) ∧ W.cell? ⟨b11, 3, none⟩ = some (.int .i64 x.v) ∧ W.cell? ⟨b11, 4, none⟩ = some (.int .i64 x.m)) (by kernel_rfl) (by exact ⟨(Kept.refl _ v4).drew, rn, r0, r1, r2, r3, r4⟩) (fun hHeld => ?_)
        refine wpAnyH_take (i := 0) (oi := ⟨some 111, _, _, _, _, _⟩) (v := ?v44) rfl (by kernel_rfl) (by kernel_rfl) (by kernel_rfl) (fun _ _ _ h => h) (Or.inl ⟨by rfl, ?hy44⟩) (by assumption) ?rest44
        case hy44 => (intro W hSw; (try dsimp only at hSw); go_simp; try with_reducible rfl)
        try simp only [Act.put, List.setIfInBounds_toArray, List.set_cons_zero, List.set_cons_succ]
        refine wpAnyH_take (i := 1) (oi := ⟨some 112, _, _, _, _, _⟩) (v := ?v45) rfl (by kernel_rfl) (by kernel_rfl) (by kernel_rfl) (fun _ _ _ h => h) (Or.inl ⟨by rfl, ?hy45⟩) (by assumption) ?rest45
        case hy45 => (intro W hSw; (try dsimp only at hSw); go_simp; try with_reducible rfl)
        try simp only [Act.put, List.setIfInBounds_toArray, List.set_cons_zero, List.set_cons_succ]
        refine wpAnyH_take (i := 2) (oi := ⟨some 113, _, _, _, _, _⟩) (v := ?v46) rfl (by kernel_rfl) (by kernel_rfl) (by kernel_rfl) (fun _ _ _ h => h) (Or.inl ⟨by rfl, ?hy46⟩) (by assumption) ?rest46
        case hy46 => (intro W hSw; (try dsimp only at hSw); go_simp; try with_reducible rfl)
        try simp only [Act.put, List.setIfInBounds_toArray, List.set_cons_zero, List.set_cons_succ]
        refine wpAnyH_take (i := 3) (oi := ⟨some 114, _, _, _, _, _⟩) (v := ?v47) rfl (by kernel_rfl) (by kernel_rfl) (by kernel_rfl) (fun _ _ _ h => h) (Or.inl ⟨by rfl, ?hy47⟩) (by assumption) ?rest47
        case hy47 => (intro W hSw; (try dsimp only at hSw); go_simp; try with_reducible rfl)
        try simp only [Act.put, List.setIfInBounds_toArray, List.set_cons_zero, List.set_cons_succ]
        refine wpAnyH_take (i := 4) (oi := ⟨some 115, _, _, _, _, _⟩) (v := ?v48) rfl (by kernel_rfl) (by kernel_rfl) (by kernel_rfl) (fun _ _ _ h => h) (Or.inl ⟨by rfl, ?hy48⟩) (by assumption) ?rest48
        case hy48 => (intro W hSw; (try dsimp only at hSw); go_simp; try with_reducible rfl)
        try simp only [Act.put, List.setIfInBounds_toArray, List.set_cons_zero, List.set_cons_succ]
        refine wpAnyH_take (i := 5) (oi := ⟨some 116, _, _, _, _, _⟩) (v := ?v49) rfl (by kernel_rfl) (by kernel_rfl) (by kernel_rfl) (fun _ _ _ h => h) (Or.inl ⟨by rfl, ?hy49⟩) (by assumption) ?rest49
        case hy49 => (intro W hSw; (try dsimp only at hSw); go_simp; try with_reducible rfl)
        try simp only [Act.put, List.setIfInBounds_toArray, List.set_cons_zero, List.set_cons_succ]
        refine wpAnyH_take (i := 6) (oi := ⟨some 117, _, _, _, _, _⟩) (v := ?v50) rfl (by kernel_rfl) (by kernel_rfl) (by kernel_rfl) (fun _ _ _ h => h) (Or.inl ⟨by rfl, ?hy50⟩) (by assumption) ?rest50
        case hy50 => (intro W hSw; (try dsimp only at hSw); go_simp; try with_reducible rfl)
        try simp only [Act.put, List.setIfInBounds_toArray, List.set_cons_zero, List.set_cons_succ]
        refine wpAnyH_take (i := 7) (oi := ⟨some 118, _, _, _, _, _⟩) (v := ?v51) rfl (by kernel_rfl) (by kernel_rfl) (by kernel_rfl) (fun _ _ _ h => h) (Or.inl ⟨by rfl, ?hy51⟩) (by assumption) ?rest51
        case hy51 => (intro W hSw; (try dsimp only at hSw); go_simp; try with_reducible rfl)
        try simp only [Act.put, List.setIfInBounds_toArray, List.set_cons_zero, List.set_cons_succ]
        refine wpAnyH_take (i := 8) (oi := ⟨some 119, _, _, _, _, _⟩) (v := ?v52) rfl (by kernel_rfl) (by kernel_rfl) (by kernel_rfl) (fun _ _ _ h => h) (Or.inl ⟨by rfl, ?hy52⟩) (by assumption) ?rest52
        case hy52 => (intro W hSw; (try dsimp only at hSw); go_simp; try with_reducible rfl)
        try simp only [Act.put, List.setIfInBounds_toArray, List.set_cons_zero, List.set_cons_succ]
        refine wpAnyH_take (i := 9) (oi := ⟨some 120, _, _, _, _, _⟩) (v := ?v53) rfl (by kernel_rfl) (by kernel_rfl) (by kernel_rfl) (fun _ _ _ h => h) (Or.inl ⟨by rfl, ?hy53⟩) (by assumption) ?rest53
        case hy53 => (intro W hSw; (try dsimp only at hSw); go_simp; try with_reducible rfl)
        try simp only [Act.put, List.setIfInBounds_toArray, List.set_cons_zero, List.set_cons_succ]
        refine wpAnyH_take (i := 10) (oi := ⟨some 121, _, _, _, _, _⟩) (v := ?v54) rfl (by kernel_rfl) (by kernel_rfl) (by kernel_rfl) (fun _ _ _ h => h) (Or.inl ⟨by rfl, ?hy54⟩) (by assumption) ?rest54
        case hy54 => (intro W hSw; (try dsimp only at hSw); go_simp; try with_reducible rfl)
        try simp only [Act.put, List.setIfInBounds_toArray, List.set_cons_zero, List.set_cons_succ]
        refine wpAnyH_take (i := 11) (oi := ⟨some 122, _, _, _, _, _⟩) (v := ?v55) rfl (by kernel_rfl) (by kernel_rfl) (by kernel_rfl) (fun _ _ _ h => h) (Or.inl ⟨by rfl, ?hy55⟩) (by assumption) ?rest55
        case hy55 => (intro W hSw; (try dsimp only at hSw); go_simp; try with_reducible rfl)
        try simp only [Act.put, List.setIfInBounds_toArray, List.set_cons_zero, List.set_cons_succ]
        refine wpAnyH_take (i := 12) (oi := ⟨some 123, _, _, _, _, _⟩) (v := ?v56) rfl (by kernel_rfl) (by kernel_rfl) (by kernel_rfl) (fun _ _ _ h => h) (Or.inl ⟨by rfl, ?hy56⟩) (by assumption) ?rest56
        case hy56 => (intro W hSw; (try dsimp only at hSw); go_simp; try with_reducible rfl)
        try simp only [Act.put, List.setIfInBounds_toArray, List.set_cons_zero, List.set_cons_succ]
        refine wpAnyH_take (i := 13) (oi := ⟨some 124, _, _, _, _, _⟩) (v := ?v57) rfl (by kernel_rfl) (by kernel_rfl) (by kernel_rfl) (fun _ _ _ h => h) (Or.inl ⟨by rfl, ?hy57⟩) (by assumption) ?rest57
        case hy57 => (intro W hSw; (try dsimp only at hSw); go_simp; try with_reducible rfl)
        try simp only [Act.put, List.setIfInBounds_toArray, List.set_cons_zero, List.set_cons_succ]
        refine wpAnyH_take (i := 15) (oi := ⟨some 126, _, _, _, _, _⟩) (v := ?v58) rfl (by kernel_rfl) (by kernel_rfl) (by kernel_rfl) (fun _ _ _ h => h) (Or.inl ⟨by rfl, ?hy58⟩) (by assumption) ?rest58
        case hy58 => (intro W hSw; (try dsimp only at hSw); go_simp; try with_reducible rfl)
        try simp only [Act.put, List.setIfInBounds_toArray, List.set_cons_zero, List.set_cons_succ]
        refine held_one (i := 14) (o := ⟨some 125, _, _, _, _, _⟩) rfl (by kernel_rfl) (by rfl) (fun K hK => ?_)
        go_simp
        refine (end_any xx _ _ _ _ _ _ _ _ (HSC4.out.kept hHeld.1 (by simp))).mono ?_
        rintro e v5 ⟨rfl, hk5⟩
        unfold Ps.val
        have HX5 := hide (show (fun W => Kept [] v4 W ∧ W.cell? ⟨bn, 0, none⟩ = some (.int .i64 m) ∧ W.cell? ⟨b11, 0, none⟩ = some (.int .i64 x.s) ∧ W.cell? ⟨b11, 1, none⟩ = some (.int .i64 x.o) ∧ W.cell? ⟨b11, 2, none⟩ = some (.int .i64 x.l) ∧ W.cell? ⟨b11, 3, none⟩ = some (.int .i64 x.v) ∧ W.cell? ⟨b11, 4, none⟩ = some (.int .i64 x.m)) v5 from ⟨hHeld.1.trans hk5 (by simp), hk5.cell hHeld.2.1 (by simp), awk5 hHeld.2.2 hk5⟩)
        refine hK.out _ _ (by exact HX5.out) (fun hHeld => ?_)
        clear hK K
        try simp only [Act.put, List.setIfInBounds_toArray, List.set_cons_zero, List.set_cons_succ]
        refine wpAnyH_take (i := 16) (oi := ⟨some 127, _, _, _, _, _⟩) (v := ?v59) rfl (by kernel_rfl) (by kernel_rfl) (by kernel_rfl) (fun _ _ _ h => h) (Or.inl ⟨by rfl, ?hy59⟩) (by assumption) ?rest59
        case hy59 => (intro W hSw; (try dsimp only at hSw); go_simp; try with_reducible rfl)
        try simp only [Act.put, List.setIfInBounds_toArray, List.set_cons_zero, List.set_cons_succ]
        refine wpAnyH_take (i := 17) (oi := ⟨some 128, _, _, _, _, _⟩) (v := ?v60) rfl (by kernel_rfl) (by kernel_rfl) (by kernel_rfl) (fun _ _ _ h => h) (Or.inl ⟨by rfl, ?hy60⟩) (by assumption) ?rest60
        case hy60 => (intro W hSw; (try dsimp only at hSw); go_simp; try with_reducible rfl)
        try simp only [Act.put, List.setIfInBounds_toArray, List.set_cons_zero, List.set_cons_succ]
        refine wpAnyH_take (i := 18) (oi := ⟨some 129, _, _, _, _, _⟩) (v := ?v61) rfl (by kernel_rfl) (by kernel_rfl) (by kernel_rfl) (fun _ _ _ h => h) (Or.inl ⟨by rfl, ?hy61⟩) (by assumption) ?rest61
        case hy61 => (intro W hSw; (try dsimp only at hSw); go_simp; try with_reducible rfl)
        try simp only [Act.put, List.setIfInBounds_toArray, List.set_cons_zero, List.set_cons_succ]
        refine wpAnyH_take (i := 19) (oi := ⟨some 130, _, _, _, _, _⟩) (v := ?v62) rfl (by kernel_rfl) (by kernel_rfl) (by kernel_rfl) (fun _ _ _ h => h) (Or.inl ⟨by rfl, ?hy62⟩) (by assumption) ?rest62
        case hy62 => (intro W hSw; (try dsimp only at hSw); go_simp; try with_reducible rfl)
        try simp only [Act.put, List.setIfInBounds_toArray, List.set_cons_zero, List.set_cons_succ]
        refine wpAnyH_take (i := 21) (oi := ⟨some 132, _, _, _, _, _⟩) (v := ?v63) rfl (by kernel_rfl) (by kernel_rfl) (by kernel_rfl) (fun _ _ _ h => h) (Or.inl ⟨by rfl, ?hy63⟩) (by assumption) ?rest63
        case hy63 => (intro W hSw; (try dsimp only at hSw); go_simp; try with_reducible rfl)
        try simp only [Act.put, List.setIfInBounds_toArray, List.set_cons_zero, List.set_cons_succ]
        refine held_one (i := 20) (o := ⟨some 131, _, _, _, _, _⟩) rfl (by kernel_rfl) (by rfl) (fun K hK => ?_)
        go_simp
        refine (end_any xr _ _ _ _ _ _ _ _ (HSR4.out.kept hHeld.1 (by simp))).mono ?_
        rintro e v6 ⟨rfl, hk6⟩
        unfold Ps.val
        have HX6 := hide (show (fun W => Kept [] v4 W ∧ W.cell? ⟨bn, 0, none⟩ = some (.int .i64 m) ∧ W.cell? ⟨b11, 0, none⟩ = some (.int .i64 x.s) ∧ W.cell? ⟨b11, 1, none⟩ = some (.int .i64 x.o) ∧ W.cell? ⟨b11, 2, none⟩ = some (.int .i64 x.l) ∧ W.cell? ⟨b11, 3, none⟩ = some (.int .i64 x.v) ∧ W.cell? ⟨b11, 4, none⟩ = some (.int .i64 x.m)) v6 from ⟨hHeld.1.trans hk6 (by simp), hk6.cell hHeld.2.1 (by simp), awk5 hHeld.2.2 hk6⟩)
        refine hK.out _ _ (by exact HX6.out) (fun hHeld => ?_)
        clear hK K
        try simp only [Act.put, List.setIfInBounds_toArray, List.set_cons_zero, List.set_cons_succ]
        refine wpAnyH_take (i := 22) (oi := ⟨some 133, _, _, _, _, _⟩) (v := ?v64) rfl (by kernel_rfl) (by kernel_rfl) (by kernel_rfl) (fun _ _ _ h => h) (Or.inl ⟨by rfl, ?hy64⟩) (by assumption) ?rest64
        case hy64 => (intro W hSw; (try dsimp only at hSw); go_simp; try with_reducible rfl)
        try simp only [Act.put, List.setIfInBounds_toArray, List.set_cons_zero, List.set_cons_succ]
        refine wpAnyH_take (i := 23) (oi := ⟨some 134, _, _, _, _, _⟩) (v := ?v65) rfl (by kernel_rfl) (by kernel_rfl) (by kernel_rfl) (fun _ _ _ h => h) (Or.inl ⟨by rfl, ?hy65⟩) (by assumption) ?rest65
        case hy65 => (intro W hSw; (try dsimp only at hSw); go_simp; try with_reducible rfl)
        try simp only [Act.put, List.setIfInBounds_toArray, List.set_cons_zero, List.set_cons_succ]
        refine wpAnyH_take (i := 24) (oi := ⟨some 135, _, _, _, _, _⟩) (v := ?v66) rfl (by kernel_rfl) (by kernel_rfl) (by kernel_rfl) (fun _ _ _ h => h) (Or.inl ⟨by rfl, ?hy66⟩) (by assumption) ?rest66
        case hy66 => (intro W hSw; (try dsimp only at hSw); go_simp; try with_reducible rfl)
        try simp only [Act.put, List.setIfInBounds_toArray, List.set_cons_zero, List.set_cons_succ]
        refine held_one (i := 25) (o := ⟨some 136, _, _, _, _, _⟩) rfl (by kernel_rfl) (by rfl) (fun K hK => ?_)
        go_simp
        refine (awake_any _).mono ?_
        rintro e v7 ⟨rfl, hk7⟩
        have HX7 := hide (show (fun W => Kept [] v4 W ∧ W.cell? ⟨bn, 0, none⟩ = some (.int .i64 m) ∧ W.cell? ⟨b11, 0, none⟩ = some (.int .i64 x.s) ∧ W.cell? ⟨b11, 1, none⟩ = some (.int .i64 x.o) ∧ W.cell? ⟨b11, 2, none⟩ = some (.int .i64 x.l) ∧ W.cell? ⟨b11, 3, none⟩ = some (.int .i64 x.v) ∧ W.cell? ⟨b11, 4, none⟩ = some (.int .i64 x.m)) v7 from ⟨hHeld.1.trans hk7 (by simp), hk7.cell hHeld.2.1 (by simp), awk5 hHeld.2.2 hk7⟩)
        refine hK.out _ _ (by exact HX7.out) (fun hHeld => ?_)
        clear hK K
        try simp only [Act.put, List.setIfInBounds_toArray, List.set_cons_zero, List.set_cons_succ]
        refine wpAnyH_take (i := 26) (oi := ⟨some 137, _, _, _, _, _⟩) (v := ?v67) rfl (by kernel_rfl) (by kernel_rfl) (by kernel_rfl) (fun _ _ _ h => h) (Or.inl ⟨by rfl, ?hy67⟩) (by assumption) ?rest67
        case hy67 => (intro W hSw; (try dsimp only at hSw); go_simp; try with_reducible rfl)
        try simp only [Act.put, List.setIfInBounds_toArray, List.set_cons_zero, List.set_cons_succ]
        refine wpAnyH_take (i := 27) (oi := ⟨some 4, _, _, _, _, _⟩) (v := ?v68) rfl (by kernel_rfl) (by kernel_rfl) (by kernel_rfl) (fun _ _ _ h => h) (Or.inl ⟨by rfl, ?hy68⟩) (by assumption) ?rest68
        case hy68 => (intro W hSw; (try dsimp only at hSw); go_simp; try with_reducible rfl)
        try simp only [Act.put, List.setIfInBounds_toArray, List.set_cons_zero, List.set_cons_succ]
        refine wpAnyH_done (by kernel_rfl) ?_ _
        refine NoPanic.normal ?_
        have HKF := hide hHeld.1
        clear hHeld
        go_wp2
        refine ⟨by simp, .inl ⟨_, _, rfl, run_takeDeferred ((HKF.out.block _ (Array.getElem?_eq_some_iff.1 HDT4.out).1 (by simp)).trans HDT4.out), ?_⟩⟩
        exact ⟨_, results_tmp rfl _ _ _, rfl, (HKW4.out.trans HKF.out (by simp)).trans (kept_put _ D2 (.deferred none)) (fun y hy => by simp at hy; subst hy; exact .inr (by have h1 := HXB.out; have h2 := HSA.out; omega))⟩
end Go.Proofs.YtklcbogjkkfnkaaGreat.sc
