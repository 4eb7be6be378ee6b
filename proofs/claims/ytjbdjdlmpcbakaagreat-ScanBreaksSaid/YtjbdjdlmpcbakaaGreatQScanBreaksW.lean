/- ScanBreaks: its walk (made by tools/gen13/gbreaks.py). -/
import Derived.Test.YtjbdjdlmpcbakaaGreatQScanStopsW
import Derived.Test.YtjbdjdlmpcbakaaGreatQScanBreaksMath
namespace Go.Proofs.YtjbdjdlmpcbakaaGreat.sc
set_option linter.unusedSimpArgs false
open Go.RowKit Go.Proofs.YtjbdjdlmpcbakaaGreat.mem Go.Proofs.YtjbdjdlmpcbakaaGreat.base Go.Proofs.YtjbdjdlmpcbakaaGreat.disk Go.Proofs.YtjbdjdlmpcbakaaGreat.owns
open Go.Proofs.YtjbdjdlmpcbakaaGreat.record (Rc RcIn RcAt put5 put5_kept cell5)
open Go.Proofs.YtjbdjdlmpcbakaaGreat.geom (GAt Rf segAt)
theorem Lo.putA {wr wr' w : World} {F G : List Nat} {d rd g b5 b10 b11 : Nat} {D D' : Dk} {b s l r q : Int} {p x : Ps} (h : Lo wr w F G d rd g b5 b10 b11 D b s l r q p x) (t : DdTo wr wr' F d G rd D') : ∃ F' G', Lo wr' w F' G' d rd g b5 b10 b11 D' b s l r q p x ∧ Kept (F ++ G) wr wr' ∧ (∀ y, y ∉ F ++ G → y < wr.heap.size → y ∉ F' ++ G') := by
  obtain ⟨F', G', h1, h2, h3⟩ := h.lw.put t
  exact ⟨F', G', ⟨h1, h3.blk h.c (h.ap _ (.inl rfl)), h3.blk h.p (h.ap _ (.inr (.inl rfl))), h3.blk h.q (h.ap _ (.inr (.inr rfl))), fun y hy => h2 y (h.ap y hy) (by
    rcases hy with rfl | rfl | rfl
    · exact h.c.lt
    · exact h.p.lt
    · exact h.q.lt), h.new, h.ne⟩, h3, h2⟩
theorem Lo.keepS {S : List Nat} {wr wr' w : World} {F G : List Nat} {d rd g b5 b10 b11 : Nat} {D : Dk} {b s l r q : Int} {p x : Ps} (h : Lo wr w F G d rd g b5 b10 b11 D b s l r q p x) (k : Kept S wr wr') (hF : ∀ i ∈ S, i ∉ F ++ G) (hg : g ∉ S) (hb : ∀ y, (y = b5 ∨ y = b10 ∨ y = b11) → y ∉ S) (hw : ∀ i ∈ S, w.heap.size ≤ i) : Lo wr' w F G d rd g b5 b10 b11 D b s l r q p x :=
  ⟨h.lw.keepS k hF hg hw, k.blk h.c (hb _ (.inl rfl)), k.blk h.p (hb _ (.inr (.inl rfl))), k.blk h.q (hb _ (.inr (.inr rfl))), h.ap, h.new, h.ne⟩
/-- The places so far, in a row of the law's own. -/
structure Of (wr w : World) (F G : List Nat) (g b5 b10 b11 : Nat) (A : Option Addr) (n c : Nat) (os : List Int) : Prop where
  own : wr.ownsRow w.heap.size 3 1 (.slice A n c) n (os.map I)
  ap : ∀ i ∈ (Value.slice A n c).ownBlock.toList, i ∉ F ++ G ∧ i ≠ g ∧ i ≠ b5 ∧ i ≠ b10 ∧ i ≠ b11
theorem Of.keep {wr wr' w : World} {F G : List Nat} {g b5 b10 b11 : Nat} {A : Option Addr} {n c : Nat} {os : List Int} (h : Of wr w F G g b5 b10 b11 A n c os) (k : Kept [] wr wr') : Of wr' w F G g b5 b10 b11 A n c os := ⟨own_keep h.own k (by simp), h.ap⟩
theorem Of.put {wr wr' w : World} {F G F' G' : List Nat} {g b5 b10 b11 : Nat} {A : Option Addr} {n c : Nat} {os : List Int} (h : Of wr w F G g b5 b10 b11 A n c os) (k : Kept (F ++ G) wr wr') (hy : ∀ y, y ∉ F ++ G → y < wr.heap.size → y ∉ F' ++ G') : Of wr' w F' G' g b5 b10 b11 A n c os :=
  ⟨own_keep h.own k (fun i hi hm => (h.ap i hm).1 hi), fun i hi => ⟨hy i (h.ap i hi).1 (own_blk h.own i hi).2.1, (h.ap i hi).2⟩⟩
theorem Of.set_ {wr wr' w : World} {F G : List Nat} {g b5 b10 b11 : Nat} {A : Option Addr} {n c : Nat} {os : List Int} (h : Of wr w F G g b5 b10 b11 A n c os) (k : Kept [b11] wr wr') : Of wr' w F G g b5 b10 b11 A n c os :=
  ⟨own_keep h.own k (fun i hi hm => by simp at hi; exact (h.ap i hm).2.2.2.2 hi), h.ap⟩
theorem row64 {w : World} {base n c : Nat} {e : TypeId} {sz : Nat} {A : Option Addr} {xs : List Value} (h : w.ownsRow base e sz (.slice A (n + 1) c) (n + 1) xs) : ∃ g, A = some ⟨g, 0, none⟩ ∧ base ≤ g ∧ Row w g e xs := by
  rcases h.2 with ⟨h1, _⟩ | ⟨g, cap, cur, h1, hb, _⟩
  · cases h1
  · obtain ⟨g2, c2, h2, h3, _, h4⟩ := disk.row_of_own h (by cases h1; simp [Value.ownBlock])
    cases h2
    exact ⟨_, rfl, h3, h4⟩
theorem field_b (s o l v m : Int) (w : World) : (Instr.field 24 (.agg #[.int .i64 s, .int .i64 o, .int .i64 l, .int .i64 v, .int .i64 m]) 1).run Tryz.prog w = .ok (.int .i64 o) w := by kernel_rfl
theorem fnd_off {w : World} {S : List Nat} : ∀ {l : List (Ps × Rc)} {xs : List Value}, FndIn w S l xs → ∀ {k : Nat} {pk : Ps} {R : Rc}, l[k]? = some (pk, R) → xs[k * 6]? = some (I pk.o)
  | [], _, _, k, pk, R, hk => by simp at hk
  | (p0, R0) :: l, xs, h, 0, pk, R, hk => by
    obtain ⟨L, m, c, P, j, d, rest, rfl, _, _⟩ := h
    simp at hk
    obtain ⟨rfl, rfl⟩ := hk
    rfl
  | (p0, R0) :: l, xs, h, k + 1, pk, R, hk => by
    obtain ⟨L, m, c, P, j, d, rest, rfl, _, hr⟩ := h
    have := fnd_off hr (k := k) (pk := pk) (R := R) (by simpa using hk)
    rw [Nat.succ_mul]
    exact this
theorem vals_I (w : World) (z : Int) (t : TypeId) : Vals (w.alloc (.cells #[.int .i64 z] t)) [] (some ⟨w.heap.size, 0, none⟩) ([z].map I) :=
  Vals.blk 0 (Blk.new w t #[.int .i64 z]) (by simp) (fun i v hv => by simpa [I] using hv)

set_option maxRecDepth 100000 in
set_option maxHeartbeats 8000000 in
theorem breaks_in (A : Option Addr) (n0 c0 : Nat) (kss : List (List Int)) (which at_ : Int) (w : World) (hv : KsAny w A kss) (hl : kss.length = n0) (h1 : 1 ≤ n0) (h8 : n0 ≤ 8) :
    Calls Tryz.prog 4 #[.slice A n0 c0, .int .i64 which, .int .i64 at_] w fun e w' => e = .returned (.bool true) ∧ Kept [] w w' := by
  have HV := hide hv
  have HL := hide hl
  have h01 : ¬ (n0 : Int) < 1 := by omega
  have h02 : ¬ (8 : Int) < n0 := by omega
  clear hv hl
  obtain ⟨b7, hb7⟩ : ∃ b7, w.heap.size = b7 := ⟨_, rfl⟩
  obtain ⟨w1, hw1⟩ : ∃ w1, w.alloc (.cells #[.int .i64 3, .int .i64 8, .int .i64 64] 29) = w1 := ⟨_, rfl⟩
  have k1 : Kept [] w w1 := by rw [← hw1]; exact (Kept.refl [] w).alloc _
  have m1 : Blk w1 b7 29 #[.int .i64 3, .int .i64 8, .int .i64 64] := by rw [← hw1, ← hb7]; exact Blk.new w _ _
  have HK1 := hide k1
  have HM1 := hide m1
  obtain ⟨c0, c1, c2⟩ : w1.cell? ⟨b7, 0, none⟩ = some (.int .i64 3) ∧ w1.cell? ⟨b7, 1, none⟩ = some (.int .i64 8) ∧ w1.cell? ⟨b7, 2, none⟩ = some (.int .i64 64) := ⟨m1.cell 0, m1.cell 1, m1.cell 2⟩
  clear k1 m1
  go_enter Tryz.func4, Tryz.ntmps4
  go_wp2_with fail
  refine (desk_any 3 8 64 _ (by unfold geom.Ok; omega)).mono ?_
  rintro e w2 ⟨F0, d, G0, rd, g, n, r, q, rfl, hdk⟩
  have hlw := Lw.of_desk HK1.out hdk
  have hbd := hdk.geo.bounds
  have hnn := hdk.hn
  have HRF := hide hdk.geo.rf
  have HM1a := hide (hdk.kept.blk HM1.out (by simp))
  have hbc : b7 ∉ F0 ++ G0 := fun hm => by have h1 := hdk.new _ hm; have h2 := hdk.old; have h3 := HM1.out.lt; omega
  obtain ⟨b12, hb12⟩ : ∃ b12, w2.heap.size = b12 := ⟨_, rfl⟩
  obtain ⟨w3, hw3⟩ : ∃ w3, w2.alloc (.cells #[.int .i64 1, .int .i64 1, .int .i64 7, .int .i64 3, .int .i64 2] 24) = w3 := ⟨_, rfl⟩
  have k3 : Kept [] w2 w3 := by rw [← hw3]; exact (Kept.refl [] w2).alloc _
  have m8 : Blk w3 b12 24 #[.int .i64 1, .int .i64 1, .int .i64 7, .int .i64 3, .int .i64 2] := by rw [← hw3, ← hb12]; exact Blk.new w2 _ _
  have hbp : b12 ∉ F0 ++ G0 := fun hm => by have h1 := hdk.dd.lt _ hm; omega
  obtain ⟨a, haa⟩ : ∃ a : Nat, 2 + 2 * r + 4 * q + 1 * 64 = (a : Int) := ⟨(2 + 2 * r + 4 * q + 1 * 64).toNat, by omega⟩
  have hn4 : 1 ≤ n ∧ n ≤ 4096 := by omega
  have HN := hide (show (a : Int) + 64 ≤ n ∧ a ≤ 4000 by omega)
  obtain ⟨hsg, hdn, hda⟩ := Seg.new n a 64 ⟨1, 1, 7, 3, 2⟩ hn4.1 hn4.2 (by omega) HN.out.1 rfl (by decide)
  obtain ⟨D1, hD1⟩ : ∃ D1, putD (Dk.new n) (a : Int) (headOf ⟨1, 1, 7, 3, 2⟩).bytes = D1 := ⟨_, rfl⟩
  rw [hD1] at hsg hdn hda
  have HD1E := sealed hD1
  have HSG := hide hsg
  have HDN := hide hdn
  have HDA := hide hda
  have HAA := hide haa
  have HD0 := hide (Reads.new n hn4.1 hn4.2)
  have HDNN := hide (show (Dk.new n).n = n by unfold Dk.n Dk.new; simp)
  have HM8 := hide m8
  have HM1b := hide (k3.blk HM1a.out (by simp))
  have HLW := hide (hlw.keep k3)
  have HBC := hide hbc
  have HBP := hide hbp
  have HBNEW := hide (show w.heap.size ≤ b7 ∧ w.heap.size ≤ b12 ∧ b7 ≠ b12 from ⟨by omega, by have := hlw.kept.size; omega, by have := HM1a.out.lt; omega⟩)
  obtain ⟨d0, d1, d2⟩ : w3.cell? ⟨b7, 0, none⟩ = some (.int .i64 3) ∧ w3.cell? ⟨b7, 1, none⟩ = some (.int .i64 8) ∧ w3.cell? ⟨b7, 2, none⟩ = some (.int .i64 64) := ⟨HM1b.out.cell 0, HM1b.out.cell 1, HM1b.out.cell 2⟩
  obtain ⟨p0, p1, p2, p3, p4⟩ := cell5 HM8.out
  clear hD1 c0 c1 c2 k3 m8 hbd haa hnn hn4 hsg hdn hda hlw hbc hbp HM1 HK1 HM1a hdk hw1
  go_wp2_with fail
  refine (khead_any F0 G0 d rd (Dk.new n) ⟨1, 1, 7, 3, 2⟩ 3 8 64 r q a _ HLW.out.dd HD0.out HRF.out (by decide) (by decide) HAA.out (by rw [HDNN.out]; have := HN.out; omega) (by simp [Dk.new])).mono ?_
  rintro e w4 ⟨rfl, hto⟩
  have hto1 : DdTo w3 w4 F0 d G0 rd D1 := by rw [← HD1E.out]; exact hto
  obtain ⟨F, G, hlw4, hap4, hk4⟩ := HLW.out.put hto1
  have HLW4 := hide hlw4
  have HM1c := hide (hk4.blk HM1b.out HBC.out)
  have HM8c := hide (hk4.blk HM8.out HBP.out)
  have HBC4 := hide (hap4 _ HBC.out HM1b.out.lt)
  have HBP4 := hide (hap4 _ HBP.out HM8.out.lt)
  clear hto hto1 hlw4 hap4 hk4 p0 p1 p2 p3 p4 d0 d1 d2 HM1b HM8 HLW HBC HBP hw3 HD0 HDNN
  obtain ⟨p0, p1, p2, p3, p4⟩ := cell5 HM8c.out
  obtain ⟨b14, hb14⟩ : ∃ b14, w4.heap.size = b14 := ⟨_, rfl⟩
  obtain ⟨w5, hw5⟩ : ∃ w5, w4.alloc (.cells #[.int .i64 1, .int .i64 1, .int .i64 7, .int .i64 3, .int .i64 2] 24) = w5 := ⟨_, rfl⟩
  have k5 : Kept [] w4 w5 := by rw [← hw5]; exact (Kept.refl [] w4).alloc _
  have m11 : Blk w5 b14 24 #[.int .i64 1, .int .i64 1, .int .i64 7, .int .i64 3, .int .i64 2] := by rw [← hw5, ← hb14]; exact Blk.new w4 _ _
  have HLO : Hid (Lo w5 w F G d rd g b7 b12 b14 D1 3 8 64 r q ⟨1, 1, 7, 3, 2⟩ ⟨1, 1, 7, 3, 2⟩) := hide ⟨HLW4.out.keep k5, k5.blk HM1c.out (by simp), k5.blk HM8c.out (by simp), m11, fun y hy hm => by
      rcases hy with rfl | rfl | rfl
      · exact HBC4.out hm
      · exact HBP4.out hm
      · have := HLW4.out.dd.lt _ hm; omega, ⟨HBNEW.out.1, HBNEW.out.2.1, by have := HLW4.out.kept.size; omega⟩, ⟨by have := HM1c.out.lt; omega, by have := HM8c.out.lt; omega, by have := HLW4.out.geo.lt; omega⟩⟩
  have HLG := hide (Lg.new HSG.out (by decide))
  have HOF : Hid (Of w5 w F G g b7 b12 b14 none 0 0 (([] : List (Ps × Rc)).map fun y => y.1.o)) := hide ⟨World.ownsRow_nil _ _ _ _, fun i hi => by simp [Value.ownBlock] at hi⟩
  clear k5 m11 HM1c HM8c HBC4 HBP4 HLW4 HBNEW
  go_wp2
  clear p0 p1 p2 p3 p4 hw5
  go_loopw [13, 15] (fun v i wr => ∃ (j : Nat) (D : Dk) (l : List (Ps × Rc)) (x : Ps) (F1 G1 : List Nat) (Ao : Option Addr) (co : Nat), j ≤ n0 ∧ i = .int .i64 j ∧ v = .slice Ao j co ∧ Hid (Of wr w F1 G1 g b7 b12 b14 Ao j co (l.map fun y => y.1.o)) ∧ Hid (Lg D a ⟨1, 1, 7, 3, 2⟩ l x j) ∧ Hid (Lo wr w F1 G1 d rd g b7 b12 b14 D 3 8 64 r q ⟨1, 1, 7, 3, 2⟩ x) ∧ Hid (D.n = n ∧ D.acts ≤ 10 + 10 * j)) (fun v i wr => n0 - (intOf i).toNat)
  case atStart => exact ⟨0, D1, [], ⟨1, 1, 7, 3, 2⟩, F, G, none, 0, Nat.zero_le _, rfl, rfl, HOF, HLG, HLO, hide ⟨HDN.out, by rw [HDA.out]; omega⟩⟩
  case round =>
    obtain ⟨j, D, l, x, F1, G1, Ao, co, hj, rfl, rfl, HOFr, HLGr, HLOr, HDr⟩ := hrel
    clear HLG HLO HOF
    by_cases hlt : j < n0
    · obtain ⟨ks, hks⟩ : ∃ ks, kss[j]? = some ks := ⟨_, List.getElem?_eq_getElem (by rw [HL.out]; exact hlt)⟩
      obtain ⟨ad, Ai, ci, rfl, hc0, hvk0⟩ := HV.out.at_ hks
      have hc := HLOr.out.lw.kept.cell hc0 (by simp)
      have HVK0 := hide ((hvk0.away (S' := F1 ++ G1) (fun i hi => .inr (HLOr.out.lw.new i hi))).kept HLOr.out.lw.kept (by simp))
      obtain ⟨nk, hnk⟩ : ∃ nk, ks.length = nk := ⟨_, rfl⟩
      rw [hnk] at hc hc0
      have HC0 := hide hc0
      have HVKW := hide hvk0
      clear hks hc0 hvk0
      by_cases hbig : 6 < nk
      · have hbi : (6 : Int) < nk := by omega
        go_wp2_with fail
        refine (awake_any _).mono ?_
        rintro e w6 ⟨rfl, hk6⟩
        have HK6 := hide (HLOr.out.lw.kept.trans hk6 (by simp))
        clear hk6
        go_wp2
        go_ret
        exact ⟨rfl, HK6.out⟩
      · have hbi : ¬ (6 : Int) < nk := by omega
        obtain ⟨R, hRk, hpl, hlg, hdn2, hac2⟩ := HLGr.out.log ks ((j : Int)) (by omega) (by omega) (by decide) (by decide)
        have HLG2 := hide hlg
        have HDN2 := hide hdn2
        have HAC2 := hide hac2
        have HPL := sealed hpl
        obtain ⟨c0', c1, c2⟩ : wr.cell? ⟨b7, 0, none⟩ = some (.int .i64 3) ∧ wr.cell? ⟨b7, 1, none⟩ = some (.int .i64 8) ∧ wr.cell? ⟨b7, 2, none⟩ = some (.int .i64 64) := ⟨HLOr.out.c.cell 0, HLOr.out.c.cell 1, HLOr.out.c.cell 2⟩
        obtain ⟨q0, q1, q2, q3', q4⟩ := cell5 HLOr.out.q
        have hown := HOFr.out.own
        have hz0 := HLOr.out.lw.kept.size
        have HHL := hide (show (l.map fun y => y.1.o).length = j from by rw [List.length_map]; exact HLGr.out.len)
        go_wp2_with (at_builtin; refine wpList_append_vals rfl (.tmp 67) (.tmp 70) 63 rfl w.heap.size 3 (.int .i64 0) 1 8 Tryz.underlying63 base.int_info rfl (by omega) (.slice Ao j co) j ((l.map fun y => y.1.o).map I) rfl (own_keep hown ((Kept.refl [] wr).alloc _) (by simp)) [] _ 1 1 ([x.o].map I) rfl rfl (vals_I _ _ _) (oneCell_I _) (by simp only [maxLen]; omega) (by omega) (by simp; omega) ?_; intro v1 wa hown1 hka hat1; obtain ⟨A3, q3, rfl⟩ := own_form hown1)
        have hoo := own_blk hown
        have hwz : ∀ i ∈ (Value.slice Ao j co).ownBlock.toList, w.heap.size ≤ i := fun i hi => (hoo i hi).1
        have hkw : Kept (Value.slice Ao j co).ownBlock.toList wr wa := ((Kept.refl _ wr).alloc _).trans hka (fun i hi => .inl hi)
        have hap0 := HOFr.out.ap
        have HLOa := hide (HLOr.out.keepS hkw (fun i hi => (hap0 i hi).1) (fun hm => (hap0 g hm).2.1 rfl) (fun y hy hm => by
          have h := (hap0 y hm).2.2
          rcases hy with h1 | h1 | h1
          · exact h.1 h1
          · exact h.2.1 h1
          · exact h.2.2 h1) hwz)
        have HVKA := hide ((HVKW.out.away (S' := F1 ++ G1) (fun i hi => .inr (HLOr.out.lw.new i hi))).kept HLOa.out.lw.kept (by simp))
        have HOFa : Hid (Of wa w F1 G1 g b7 b12 b14 A3 (j + 1) q3 ((l ++ [(x, R)]).map fun y => y.1.o)) := hide ⟨by rw [List.map_append, List.map_append]; exact hown1, fun i hi => by
          have hlt := HLOr.out.lw.dd.lt
          have hgl := HLOr.out.lw.geo.lt
          have hcl := HLOr.out.c.lt
          have hpl := HLOr.out.p.lt
          have hql := HLOr.out.q.lt
          rcases hat1 with h | h
          · rw [h] at hi
            exact hap0 i hi
          · rw [h] at hi
            simp at hi
            exact ⟨fun hm => by have := hlt i hm; omega, by omega, by omega, by omega, by omega⟩⟩
        clear hown hz0 hown1 hka hat1 hoo hwz hkw hap0 HHL HOFr HLOr c0' c1 c2 q0 q1 q2 q3' q4
        obtain ⟨c0', c1, c2⟩ : wa.cell? ⟨b7, 0, none⟩ = some (.int .i64 3) ∧ wa.cell? ⟨b7, 1, none⟩ = some (.int .i64 8) ∧ wa.cell? ⟨b7, 2, none⟩ = some (.int .i64 64) := ⟨HLOa.out.c.cell 0, HLOa.out.c.cell 1, HLOa.out.c.cell 2⟩
        obtain ⟨q0, q1, q2, q3', q4⟩ := cell5 HLOa.out.q
        obtain ⟨bl, hbl⟩ : ∃ bl, wa.heap.size = bl := ⟨_, rfl⟩
        obtain ⟨wl, hwl⟩ : ∃ wl, wa.alloc (.cells #[.slice Ai nk ci, .int .i64 ((j : Int)), .int .i64 0, .int .i64 0, .int .i64 0] 65) = wl := ⟨_, rfl⟩
        have kl : Kept [] wa wl := by rw [← hwl]; exact (Kept.refl [] wa).alloc _
        have ml : Blk wl bl 65 #[.slice Ai nk ci, .int .i64 ((j : Int)), .int .i64 0, .int .i64 0, .int .i64 0] := by rw [← hwl, ← hbl]; exact Blk.new wa _ _
        have hblF : bl ∉ F1 ++ G1 := fun hm => by have := HLOa.out.lw.dd.lt _ hm; omega
        have HVL : Hid (Vals wl.drew (F1 ++ G1) (some ⟨bl, 0, none⟩) [.slice Ai nk ci, .int .i64 ((j : Int)), .int .i64 0, .int .i64 0, .int .i64 0]) := hide (Vals.blk 0 ml.drew hblF (fun i v hv => by simpa using hv))
        have HVK : Hid (KrIn wl.drew (F1 ++ G1) [⟨ks, (j : Int), 0, 0, 0⟩] [.slice Ai nk ci, .int .i64 ((j : Int)), .int .i64 0, .int .i64 0, .int .i64 0]) := hide ⟨Ai, ci, [], by rw [hnk], HVKA.out.kept kl.drew (by simp), rfl⟩
        have HLOl := hide (HLOa.out.keep kl.drew)
        have HS0 := hide (show (fun W => W.cell? ⟨b7, 0, none⟩ = some (.int .i64 3) ∧ W.cell? ⟨b7, 1, none⟩ = some (.int .i64 8) ∧ W.cell? ⟨b7, 2, none⟩ = some (.int .i64 64) ∧ W.cell? (ad.add j) = some (.slice Ai nk ci)) wa.drew from ⟨c0', c1, c2, HLOa.out.lw.kept.cell HC0.out (by simp)⟩)
        have HSl := hide (show (fun W => W.cell? ⟨b7, 0, none⟩ = some (.int .i64 3) ∧ W.cell? ⟨b7, 1, none⟩ = some (.int .i64 8) ∧ W.cell? ⟨b7, 2, none⟩ = some (.int .i64 64) ∧ W.cell? (ad.add j) = some (.slice Ai nk ci)) wl.drew from ⟨HLOl.out.c.cell 0, HLOl.out.c.cell 1, HLOl.out.c.cell 2, HLOl.out.lw.kept.cell HC0.out (by simp)⟩)
        have HKK := hide (show Kept [] wa wl.drew from kl.drew)
        obtain ⟨ql0, ql1, ql2, ql3, ql4⟩ := cell5 HLOl.out.q
        have HFB := hide (show ∀ D', DdTo wl.drew wl.drew F1 d G1 rd D' → True from fun _ _ => trivial)
        clear kl ml hblF hlg hdn2 hac2 hpl
        go_wp2
        go_cut [11] from 72 to 86 (fun p9 wx => ∃ (F2 G2 : List Nat), p9 = .bool true ∧ Hid (Of wx w F2 G2 g b7 b12 b14 A3 (j + 1) q3 ((l ++ [(x, R)]).map fun y => y.1.o)) ∧ Hid (Lo wx w F2 G2 d rd g b7 b12 b14 (logD D a 64 x [⟨ks, (j : Int), 0, 0, 0⟩]).1 3 8 64 r q ⟨1, 1, 7, 3, 2⟩ (behind x R R.sum)))
        case first =>
          refine wp_region_noPanic ?_
          refine wp_region_held_drew (S := fun W => W.cell? ⟨b7, 0, none⟩ = some (.int .i64 3) ∧ W.cell? ⟨b7, 1, none⟩ = some (.int .i64 8) ∧ W.cell? ⟨b7, 2, none⟩ = some (.int .i64 64) ∧ W.cell? (ad.add j) = some (.slice Ai nk ci)) (by kernel_rfl) (by exact HS0.out) (fun hHeld => ?_)
          refine wpAnyH_take (i := 0) (oi := ⟨some 73, _, _, _, _, _⟩) (v := ?v1) rfl (by kernel_rfl) (by kernel_rfl) (by kernel_rfl) (fun _ _ _ h => h) (Or.inl ⟨by rfl, ?hy1⟩) (by assumption) ?rest1
          case hy1 => (intro W hSw; (try dsimp only at hSw); go_simp; try with_reducible rfl)
          try simp only [Act.put, List.setIfInBounds_toArray, List.set_cons_zero, List.set_cons_succ]
          refine wpAnyH_take (i := 1) (oi := ⟨some 74, _, _, _, _, _⟩) (v := ?v2) rfl (by kernel_rfl) (by kernel_rfl) (by kernel_rfl) (fun _ _ _ h => h) (Or.inl ⟨by rfl, ?hy2⟩) (by assumption) ?rest2
          case hy2 => (intro W hSw; (try dsimp only at hSw); go_simp; try with_reducible rfl)
          try simp only [Act.put, List.setIfInBounds_toArray, List.set_cons_zero, List.set_cons_succ]
          refine wpAnyH_take (i := 2) (oi := ⟨some 75, _, _, _, _, _⟩) (v := ?v3) rfl (by kernel_rfl) (by kernel_rfl) (by kernel_rfl) (fun _ _ _ h => h) (Or.inl ⟨by rfl, ?hy3⟩) (by assumption) ?rest3
          case hy3 => (intro W hSw; (try dsimp only at hSw); go_simp; try with_reducible rfl)
          try simp only [Act.put, List.setIfInBounds_toArray, List.set_cons_zero, List.set_cons_succ]
          refine wpAnyH_take (i := 4) (oi := ⟨some 77, _, _, _, _, _⟩) (v := ?v4) rfl (by kernel_rfl) (by kernel_rfl) (by kernel_rfl) (fun _ _ _ h => h) (Or.inl ⟨by rfl, ?hy4⟩) (by assumption) ?rest4
          case hy4 => (intro W hSw; (try dsimp only at hSw); go_simp; try with_reducible rfl)
          try simp only [Act.put, List.setIfInBounds_toArray, List.set_cons_zero, List.set_cons_succ]
          refine wpAnyH_take (i := 5) (oi := ⟨some 78, _, _, _, _, _⟩) (v := ?v5) rfl (by kernel_rfl) (by kernel_rfl) (by kernel_rfl) (fun _ _ _ h => h) (Or.inl ⟨by rfl, ?hy5⟩) (by assumption) ?rest5
          case hy5 => (intro W hSw; (try dsimp only at hSw); go_simp; try with_reducible rfl)
          try simp only [Act.put, List.setIfInBounds_toArray, List.set_cons_zero, List.set_cons_succ]
          refine wpAnyH_take (i := 6) (oi := ⟨some 79, _, _, _, _, _⟩) (v := ?v6) rfl (by kernel_rfl) (by kernel_rfl) (by kernel_rfl) (fun _ _ _ h => h) (Or.inl ⟨by rfl, ?hy6⟩) (by assumption) ?rest6
          case hy6 => (intro W hSw; (try dsimp only at hSw); go_simp; try with_reducible rfl)
          try simp only [Act.put, List.setIfInBounds_toArray, List.set_cons_zero, List.set_cons_succ]
          refine wpAnyH_take (i := 7) (oi := ⟨some 80, _, _, _, _, _⟩) (v := ?v7) rfl (by kernel_rfl) (by kernel_rfl) (by kernel_rfl) (fun _ _ _ h => h) (Or.inl ⟨by rfl, ?hy7⟩) (by assumption) ?rest7
          case hy7 => (intro W hSw; (try dsimp only at hSw); go_simp; try with_reducible rfl)
          try simp only [Act.put, List.setIfInBounds_toArray, List.set_cons_zero, List.set_cons_succ]
          refine wpAnyH_take (i := 8) (oi := ⟨some 81, _, _, _, _, _⟩) (v := ?v8) rfl (by kernel_rfl) (by kernel_rfl) (by kernel_rfl) (fun _ _ _ h => h) (Or.inl ⟨by rfl, ?hy8⟩) (by assumption) ?rest8
          case hy8 => (intro W hSw; (try dsimp only at hSw); go_simp; try with_reducible rfl)
          try simp only [Act.put, List.setIfInBounds_toArray, List.set_cons_zero, List.set_cons_succ]
          refine wpAnyH_take (i := 9) (oi := ⟨some 82, _, _, _, _, _⟩) (v := ?v9) rfl (by kernel_rfl) (by kernel_rfl) (by kernel_rfl) (fun _ _ _ h => h) (Or.inl ⟨by rfl, ?hy9⟩) (by assumption) ?rest9
          case hy9 => (intro W hSw; (try dsimp only at hSw); go_simp; try with_reducible rfl)
          try simp only [Act.put, List.setIfInBounds_toArray, List.set_cons_zero, List.set_cons_succ]
          refine next_two (i := 3) (j := 10) (o := ⟨some 76, _, _, _, _, _⟩) (o' := ⟨some 83, _, _, _, _, _⟩) (by kernel_rfl) rfl (by rfl) rfl (by rfl) (fun K hK => ?_) (fun K hK => ?_)
          · go_simp
            refine hK _ _ (by first | exact HS0.out | exact HSl.out) ?_
            clear hK K
            try simp only [Act.put, List.setIfInBounds_toArray, List.set_cons_zero, List.set_cons_succ]
            refine held_one (i := 10) (o := ⟨some 83, _, _, _, _, _⟩) rfl (by kernel_rfl) (by rfl) (fun K hK => ?_)
            go_simp
            refine hK.out _ _ (by first | exact HSl.out) (fun hHeld => ?_)
            clear hK K
            try simp only [Act.put, List.setIfInBounds_toArray, List.set_cons_zero, List.set_cons_succ]
            refine held_one (i := 11) (o := ⟨some 84, _, _, _, _, _⟩) rfl (by kernel_rfl) (by rfl) (fun K hK => ?_)
            go_simp
            refine (klog_any F1 G1 d rd D x 3 8 64 r q a (some ⟨bl, 0, none⟩) 1 1 [⟨ks, (j : Int), 0, 0, 0⟩] _ _ HLOl.out.lw.dd HLGr.out.seg.reads HRF.out (by have := HLGr.out.s; rw [this]; decide) (by have := HLGr.out.s; rw [this]; exact HAA.out) (by rw [HDr.out.1]; exact HN.out.1) (by have := HDr.out.2; omega) (HLGr.out.logOk (by omega) (by decide) (by decide)) rfl (by omega) (by intro y hy; simp only [List.mem_cons, List.not_mem_nil, or_false] at hy; subst hy; dsimp only; omega) HVL.out HVK.out).mono ?_
            rintro e w6 ⟨rfl, hto⟩
            rw [HPL.out]
            obtain ⟨F2, G2, hlo6, hk6, hap6⟩ := HLOl.out.putA hto
            have HOF6 := hide ((HOFa.out.keep HKK.out).put hk6 hap6)
            have HLO6 := hide hlo6
            unfold Ps.val
            have HS6 := hide (show (fun W => W.cell? ⟨b7, 0, none⟩ = some (.int .i64 3) ∧ W.cell? ⟨b7, 1, none⟩ = some (.int .i64 8) ∧ W.cell? ⟨b7, 2, none⟩ = some (.int .i64 64) ∧ W.cell? (ad.add j) = some (.slice Ai nk ci)) w6 from ⟨hlo6.c.cell 0, hlo6.c.cell 1, hlo6.c.cell 2, hlo6.lw.kept.cell HC0.out (by simp)⟩)
            obtain ⟨s0, s1, s2, s3, s4⟩ := cell5 hlo6.q
            have fq := hlo6.q.frozen
            have f0 := fq 0
            have f1 := fq 1
            have f2 := fq 2
            have f3 := fq 3
            have f4 := fq 4
            clear hlo6 hto fq
            refine hK.out _ _ (by exact HS6.out) (fun hHeld => ?_)
            clear hK K
            try simp only [Act.put, List.setIfInBounds_toArray, List.set_cons_zero, List.set_cons_succ]
            refine wpAnyH_take (i := 12) (oi := ⟨some 72, _, _, _, _, _⟩) (v := ?v10) rfl (by kernel_rfl) (by kernel_rfl) (by kernel_rfl) (fun _ _ _ h => h) (Or.inl ⟨by rfl, ?hy10⟩) (by assumption) ?rest10
            case hy10 => (intro W hSw; (try dsimp only at hSw); go_simp; try with_reducible rfl)
            try simp only [Act.put, List.setIfInBounds_toArray, List.set_cons_zero, List.set_cons_succ]
            refine wpAnyH_take (i := 13) (oi := ⟨some 85, _, _, _, _, _⟩) (v := ?v11) rfl (by kernel_rfl) (by kernel_rfl) (by kernel_rfl) (fun _ _ _ h => h) (Or.inl ⟨by rfl, ?hy11⟩) (by assumption) ?rest11
            case hy11 => (intro W hSw; (try dsimp only at hSw); go_simp; try with_reducible rfl)
            try simp only [Act.put, List.setIfInBounds_toArray, List.set_cons_zero, List.set_cons_succ]
            refine wpAnyH_take (i := 14) (oi := ⟨some 86, _, _, _, _, _⟩) (v := ?v12) rfl (by kernel_rfl) (by kernel_rfl) (by kernel_rfl) (fun _ _ _ h => h) (Or.inl ⟨by rfl, ?hy12⟩) (by assumption) ?rest12
            case hy12 => (intro W hSw; (try dsimp only at hSw); go_simp; try with_reducible rfl)
            try simp only [Act.put, List.setIfInBounds_toArray, List.set_cons_zero, List.set_cons_succ]
            refine held_one (i := 15) (o := ⟨none, _, _, _, _, _⟩) rfl (by kernel_rfl) (by rfl) (fun K hK => ?_)
            go_simp
            have HLO7 := hide (HLO6.out.go (behind x R R.sum))
            have HOF7 := hide (HOF6.out.set_ (put5_kept (g := b14) (S := [b14]) (.int .i64 (behind x R R.sum).s) (.int .i64 (behind x R R.sum).o) (.int .i64 (behind x R R.sum).l) (.int .i64 (behind x R R.sum).v) (.int .i64 (behind x R R.sum).m) (Kept.refl [b14] w6) (.inl (by simp))))
            generalize (((((w6.setCell ⟨b14, 0, none⟩ (.int .i64 (behind x R R.sum).s)).setCell ⟨b14, 1, none⟩ (.int .i64 (behind x R R.sum).o)).setCell ⟨b14, 2, none⟩ (.int .i64 (behind x R R.sum).l)).setCell ⟨b14, 3, none⟩ (.int .i64 (behind x R R.sum).v)).setCell ⟨b14, 4, none⟩ (.int .i64 (behind x R R.sum).m)) = w7 at HLO7 HOF7 ⊢
            have HS7 := hide (show (fun W => W.cell? ⟨b7, 0, none⟩ = some (.int .i64 3) ∧ W.cell? ⟨b7, 1, none⟩ = some (.int .i64 8) ∧ W.cell? ⟨b7, 2, none⟩ = some (.int .i64 64) ∧ W.cell? (ad.add j) = some (.slice Ai nk ci)) w7 from ⟨HLO7.out.c.cell 0, HLO7.out.c.cell 1, HLO7.out.c.cell 2, HLO7.out.lw.kept.cell HC0.out (by simp)⟩)
            refine hK.out _ _ (by exact HS7.out) (fun hHeld => ?_)
            clear hK K
            try simp only [Act.put, List.setIfInBounds_toArray, List.set_cons_zero, List.set_cons_succ]
            refine wpAnyH_take (i := 16) (oi := ⟨some 11, _, _, _, _, _⟩) (v := ?v13) rfl (by kernel_rfl) (by kernel_rfl) (by kernel_rfl) (fun _ _ _ h => h) (Or.inl ⟨by rfl, ?hy13⟩) (by assumption) ?rest13
            case hy13 => (intro W hSw; (try dsimp only at hSw); go_simp; try with_reducible rfl)
            try simp only [Act.put, List.setIfInBounds_toArray, List.set_cons_zero, List.set_cons_succ]
            refine wpAnyH_done (by kernel_rfl) ?_ _
            refine NoPanic.normal ?_
            go_wp2_with fail
            go_meet
            exact ⟨F2, G2, rfl, HOF7, HLO7⟩
          · go_simp
            refine hK _ _ (by first | exact HSl.out) ?_
            clear hK K
            try simp only [Act.put, List.setIfInBounds_toArray, List.set_cons_zero, List.set_cons_succ]
            refine held_one (i := 3) (o := ⟨some 76, _, _, _, _, _⟩) rfl (by kernel_rfl) (by rfl) (fun K hK => ?_)
            go_simp
            refine hK.out _ _ (by first | exact HS0.out | exact HSl.out) (fun hHeld => ?_)
            clear hK K
            try simp only [Act.put, List.setIfInBounds_toArray, List.set_cons_zero, List.set_cons_succ]
            refine held_one (i := 11) (o := ⟨some 84, _, _, _, _, _⟩) rfl (by kernel_rfl) (by rfl) (fun K hK => ?_)
            go_simp
            refine (klog_any F1 G1 d rd D x 3 8 64 r q a (some ⟨bl, 0, none⟩) 1 1 [⟨ks, (j : Int), 0, 0, 0⟩] _ _ HLOl.out.lw.dd HLGr.out.seg.reads HRF.out (by have := HLGr.out.s; rw [this]; decide) (by have := HLGr.out.s; rw [this]; exact HAA.out) (by rw [HDr.out.1]; exact HN.out.1) (by have := HDr.out.2; omega) (HLGr.out.logOk (by omega) (by decide) (by decide)) rfl (by omega) (by intro y hy; simp only [List.mem_cons, List.not_mem_nil, or_false] at hy; subst hy; dsimp only; omega) HVL.out HVK.out).mono ?_
            rintro e w6 ⟨rfl, hto⟩
            rw [HPL.out]
            obtain ⟨F2, G2, hlo6, hk6, hap6⟩ := HLOl.out.putA hto
            have HOF6 := hide ((HOFa.out.keep HKK.out).put hk6 hap6)
            have HLO6 := hide hlo6
            unfold Ps.val
            have HS6 := hide (show (fun W => W.cell? ⟨b7, 0, none⟩ = some (.int .i64 3) ∧ W.cell? ⟨b7, 1, none⟩ = some (.int .i64 8) ∧ W.cell? ⟨b7, 2, none⟩ = some (.int .i64 64) ∧ W.cell? (ad.add j) = some (.slice Ai nk ci)) w6 from ⟨hlo6.c.cell 0, hlo6.c.cell 1, hlo6.c.cell 2, hlo6.lw.kept.cell HC0.out (by simp)⟩)
            obtain ⟨s0, s1, s2, s3, s4⟩ := cell5 hlo6.q
            have fq := hlo6.q.frozen
            have f0 := fq 0
            have f1 := fq 1
            have f2 := fq 2
            have f3 := fq 3
            have f4 := fq 4
            clear hlo6 hto fq
            refine hK.out _ _ (by exact HS6.out) (fun hHeld => ?_)
            clear hK K
            try simp only [Act.put, List.setIfInBounds_toArray, List.set_cons_zero, List.set_cons_succ]
            refine wpAnyH_take (i := 12) (oi := ⟨some 72, _, _, _, _, _⟩) (v := ?v14) rfl (by kernel_rfl) (by kernel_rfl) (by kernel_rfl) (fun _ _ _ h => h) (Or.inl ⟨by rfl, ?hy14⟩) (by assumption) ?rest14
            case hy14 => (intro W hSw; (try dsimp only at hSw); go_simp; try with_reducible rfl)
            try simp only [Act.put, List.setIfInBounds_toArray, List.set_cons_zero, List.set_cons_succ]
            refine wpAnyH_take (i := 13) (oi := ⟨some 85, _, _, _, _, _⟩) (v := ?v15) rfl (by kernel_rfl) (by kernel_rfl) (by kernel_rfl) (fun _ _ _ h => h) (Or.inl ⟨by rfl, ?hy15⟩) (by assumption) ?rest15
            case hy15 => (intro W hSw; (try dsimp only at hSw); go_simp; try with_reducible rfl)
            try simp only [Act.put, List.setIfInBounds_toArray, List.set_cons_zero, List.set_cons_succ]
            refine wpAnyH_take (i := 14) (oi := ⟨some 86, _, _, _, _, _⟩) (v := ?v16) rfl (by kernel_rfl) (by kernel_rfl) (by kernel_rfl) (fun _ _ _ h => h) (Or.inl ⟨by rfl, ?hy16⟩) (by assumption) ?rest16
            case hy16 => (intro W hSw; (try dsimp only at hSw); go_simp; try with_reducible rfl)
            try simp only [Act.put, List.setIfInBounds_toArray, List.set_cons_zero, List.set_cons_succ]
            refine held_one (i := 15) (o := ⟨none, _, _, _, _, _⟩) rfl (by kernel_rfl) (by rfl) (fun K hK => ?_)
            go_simp
            have HLO7 := hide (HLO6.out.go (behind x R R.sum))
            have HOF7 := hide (HOF6.out.set_ (put5_kept (g := b14) (S := [b14]) (.int .i64 (behind x R R.sum).s) (.int .i64 (behind x R R.sum).o) (.int .i64 (behind x R R.sum).l) (.int .i64 (behind x R R.sum).v) (.int .i64 (behind x R R.sum).m) (Kept.refl [b14] w6) (.inl (by simp))))
            generalize (((((w6.setCell ⟨b14, 0, none⟩ (.int .i64 (behind x R R.sum).s)).setCell ⟨b14, 1, none⟩ (.int .i64 (behind x R R.sum).o)).setCell ⟨b14, 2, none⟩ (.int .i64 (behind x R R.sum).l)).setCell ⟨b14, 3, none⟩ (.int .i64 (behind x R R.sum).v)).setCell ⟨b14, 4, none⟩ (.int .i64 (behind x R R.sum).m)) = w7 at HLO7 HOF7 ⊢
            have HS7 := hide (show (fun W => W.cell? ⟨b7, 0, none⟩ = some (.int .i64 3) ∧ W.cell? ⟨b7, 1, none⟩ = some (.int .i64 8) ∧ W.cell? ⟨b7, 2, none⟩ = some (.int .i64 64) ∧ W.cell? (ad.add j) = some (.slice Ai nk ci)) w7 from ⟨HLO7.out.c.cell 0, HLO7.out.c.cell 1, HLO7.out.c.cell 2, HLO7.out.lw.kept.cell HC0.out (by simp)⟩)
            refine hK.out _ _ (by exact HS7.out) (fun hHeld => ?_)
            clear hK K
            try simp only [Act.put, List.setIfInBounds_toArray, List.set_cons_zero, List.set_cons_succ]
            refine wpAnyH_take (i := 16) (oi := ⟨some 11, _, _, _, _, _⟩) (v := ?v17) rfl (by kernel_rfl) (by kernel_rfl) (by kernel_rfl) (fun _ _ _ h => h) (Or.inl ⟨by rfl, ?hy17⟩) (by assumption) ?rest17
            case hy17 => (intro W hSw; (try dsimp only at hSw); go_simp; try with_reducible rfl)
            try simp only [Act.put, List.setIfInBounds_toArray, List.set_cons_zero, List.set_cons_succ]
            refine wpAnyH_done (by kernel_rfl) ?_ _
            refine NoPanic.normal ?_
            go_wp2_with fail
            go_meet
            exact ⟨F2, G2, rfl, HOF7, HLO7⟩
        case rest =>
          obtain ⟨F2, G2, rfl, HOF9, HLO9⟩ := hcut
          clear c0' c1 c2 q0 q1 q2 q3' q4 ql0 ql1 ql2 ql3 ql4 HVL HVK HS0 HSl HLOl HLOa HKK HFB hwl
          go_wp2
          exact ⟨⟨j + 1, _, _, _, F2, G2, A3, q3, by omega, by go_num, rfl, HOF9, HLG2, HLO9, hide ⟨by rw [HDN2.out]; exact HDr.out.1, by have h1 := HAC2.out; have h2 := HDr.out.2; omega⟩⟩, by simp [intOf]; omega⟩
    · obtain rfl : j = n0 := by omega
      have HTOLD := sealed (HLGr.out.seg.toldHead ⟨1, 0, 0, 0, 0⟩ true rfl rfl (.inl rfl))
      have hll := HLGr.out.len
      have HLLN := sealed hll
      have HOKD := hide HLGr.out.seg.reads.ok
      have hown := HOFr.out.own
      have hz0 := HLOr.out.lw.kept.size
      obtain ⟨q0, q1, q2, q3', q4⟩ := cell5 HLOr.out.q
      clear hll
      go_wp2_with (at_builtin; refine wpList_append_vals rfl (.tmp 89) (.tmp 92) 63 rfl w.heap.size 3 (.int .i64 0) 1 8 Tryz.underlying63 base.int_info rfl (by omega) (.slice Ao j co) j ((l.map fun y => y.1.o).map I) rfl (own_keep hown ((Kept.refl [] wr).alloc _) (by simp)) [] _ 1 1 ([x.o].map I) rfl rfl (vals_I _ _ _) (oneCell_I _) (by simp only [maxLen]; omega) (by omega) (by simp; omega) ?_; intro v1 wa hown1 hka hat1; obtain ⟨A3, q3, rfl⟩ := own_form hown1)
      have hoo := own_blk hown
      have hwz : ∀ i ∈ (Value.slice Ao j co).ownBlock.toList, w.heap.size ≤ i := fun i hi => (hoo i hi).1
      have hkw : Kept (Value.slice Ao j co).ownBlock.toList wr wa := ((Kept.refl _ wr).alloc _).trans hka (fun i hi => .inl hi)
      have hap0 := HOFr.out.ap
      have HLOa := hide (HLOr.out.keepS hkw (fun i hi => (hap0 i hi).1) (fun hm => (hap0 g hm).2.1 rfl) (fun y hy hm => by
        have h := (hap0 y hm).2.2
        rcases hy with h1 | h1 | h1
        · exact h.1 h1
        · exact h.2.1 h1
        · exact h.2.2 h1) hwz)
      have HOFa : Hid (Of wa w F1 G1 g b7 b12 b14 A3 (j + 1) q3 (offsOf l x)) := hide ⟨by unfold offsOf; rw [List.map_append]; exact hown1, fun i hi => by
        have hlt := HLOr.out.lw.dd.lt
        have hgl := HLOr.out.lw.geo.lt
        have hcl := HLOr.out.c.lt
        have hpl := HLOr.out.p.lt
        have hql := HLOr.out.q.lt
        rcases hat1 with h | h
        · rw [h] at hi
          exact hap0 i hi
        · rw [h] at hi
          simp at hi
          exact ⟨fun hm => by have := hlt i hm; omega, by omega, by omega, by omega, by omega⟩⟩
      clear hown hz0 hown1 hka hat1 hoo hwz hkw hap0 HOFr HLOr q0 q1 q2 q3' q4
      go_wp2_with fail
      refine (segment_any d g 3 8 64 r q 1 _ HLOa.out.lw.geo (by decide)).mono ?_
      rintro e w8 ⟨xx, rfl, hxx, hsc, hk8⟩
      rw [segAt_in (by decide), HAA.out] at hsc
      have HSC := hide hsc
      have HXX := hide (show xx ∉ F1 ++ G1 ∧ w.heap.size ≤ xx ∧ (xx ≠ g ∧ xx ≠ b7 ∧ xx ≠ b12 ∧ xx ≠ b14) ∧ xx ∉ (Value.slice A3 (j + 1) q3).ownBlock.toList from ⟨fun hm => by have := HLOa.out.lw.dd.lt xx hm; omega, by have := HLOa.out.lw.kept.size; omega, by have h1 := HLOa.out.lw.geo.lt; have h2 := HLOa.out.c.lt; have h3 := HLOa.out.p.lt; have h4 := HLOa.out.q.lt; omega, fun hm => by have := (own_blk HOFa.out.own xx hm).2.1; omega⟩)
      have HLO8 := hide (HLOa.out.keep hk8)
      have HOF8 := hide (HOFa.out.keep hk8)
      obtain ⟨q0, q1, q2, q3', q4⟩ := cell5 HLO8.out.q
      have hneX := fun W => neq_pos x x W
      simp only [decide_true, Bool.not_true] at hneX
      have hlj : l.length = j := HLLN.out
      clear hsc hxx hk8 HLOa HOFa
      go_wp2
      refine wp_region_noPanic ?_
      refine wp_region_held_drew (S := fun W => Kept [xx] w8 W ∧ W.cell? ⟨b14, 0, none⟩ = some (.int .i64 x.s) ∧ W.cell? ⟨b14, 1, none⟩ = some (.int .i64 x.o) ∧ W.cell? ⟨b14, 2, none⟩ = some (.int .i64 x.l) ∧ W.cell? ⟨b14, 3, none⟩ = some (.int .i64 x.v) ∧ W.cell? ⟨b14, 4, none⟩ = some (.int .i64 x.m)) (by kernel_rfl) (by exact ⟨(Kept.refl _ w8).drew, q0, q1, q2, q3', q4⟩) (fun hHeld => ?_)
      refine wpAnyH_take (i := 0) (oi := ⟨some 97, _, _, _, _, _⟩) (v := ?v18) rfl (by kernel_rfl) (by kernel_rfl) (by kernel_rfl) (fun _ _ _ h => h) (Or.inl ⟨by rfl, ?hy18⟩) (by assumption) ?rest18
      case hy18 => (intro W hSw; (try dsimp only at hSw); go_simp; try with_reducible rfl)
      try simp only [Act.put, List.setIfInBounds_toArray, List.set_cons_zero, List.set_cons_succ]
      refine wpAnyH_take (i := 1) (oi := ⟨some 98, _, _, _, _, _⟩) (v := ?v19) rfl (by kernel_rfl) (by kernel_rfl) (by kernel_rfl) (fun _ _ _ h => h) (Or.inl ⟨by rfl, ?hy19⟩) (by assumption) ?rest19
      case hy19 => (intro W hSw; (try dsimp only at hSw); go_simp; try with_reducible rfl)
      try simp only [Act.put, List.setIfInBounds_toArray, List.set_cons_zero, List.set_cons_succ]
      refine wpAnyH_take (i := 2) (oi := ⟨some 99, _, _, _, _, _⟩) (v := ?v20) rfl (by kernel_rfl) (by kernel_rfl) (by kernel_rfl) (fun _ _ _ h => h) (Or.inl ⟨by rfl, ?hy20⟩) (by assumption) ?rest20
      case hy20 => (intro W hSw; (try dsimp only at hSw); go_simp; try with_reducible rfl)
      try simp only [Act.put, List.setIfInBounds_toArray, List.set_cons_zero, List.set_cons_succ]
      refine wpAnyH_take (i := 3) (oi := ⟨some 100, _, _, _, _, _⟩) (v := ?v21) rfl (by kernel_rfl) (by kernel_rfl) (by kernel_rfl) (fun _ _ _ h => h) (Or.inl ⟨by rfl, ?hy21⟩) (by assumption) ?rest21
      case hy21 => (intro W hSw; (try dsimp only at hSw); go_simp; try with_reducible rfl)
      try simp only [Act.put, List.setIfInBounds_toArray, List.set_cons_zero, List.set_cons_succ]
      refine wpAnyH_take (i := 6) (oi := ⟨some 103, _, _, _, _, _⟩) (v := ?v22) rfl (by kernel_rfl) (by kernel_rfl) (by kernel_rfl) (fun _ _ _ h => h) (Or.inl ⟨by rfl, ?hy22⟩) (by assumption) ?rest22
      case hy22 => (intro W hSw; (try dsimp only at hSw); go_simp; try with_reducible rfl)
      try simp only [Act.put, List.setIfInBounds_toArray, List.set_cons_zero, List.set_cons_succ]
      refine wpAnyH_take (i := 7) (oi := ⟨some 104, _, _, _, _, _⟩) (v := ?v23) rfl (by kernel_rfl) (by kernel_rfl) (by kernel_rfl) (fun _ _ _ h => h) (Or.inl ⟨by rfl, ?hy23⟩) (by assumption) ?rest23
      case hy23 => (intro W hSw; (try dsimp only at hSw); go_simp; try with_reducible rfl)
      try simp only [Act.put, List.setIfInBounds_toArray, List.set_cons_zero, List.set_cons_succ]
      refine held_one (i := 4) (o := ⟨some 101, _, _, _, _, _⟩) rfl (by kernel_rfl) (by rfl) (fun K hK => ?_)
      go_simp
      refine (walk_any F1 D HOKD.out xx _ _ _ _ _ _ _ l x 0 99 _ HTOLD.out (by rw [HLLN.out]; omega) (by rw [HLLN.out]; omega) (HSC.out.kept (Kept.refl [] w8).drew (by simp)) ((HLO8.out.lw.dd.dsk 64).kept (Kept.refl [] w8).drew (by simp)) (fun y hy => HLO8.out.lw.dd.lt y (by simp [hy])) (fun hm => HXX.out.1 (by simp [hm])) (by have := HN.out; omega) (by omega)).mono ?_
      rintro e w9 ⟨A4, ca4, xs4, rfl, _, _, _, hsc9, hdk9, hk9⟩
      rw [HLLN.out]
      have HSC9 := hide hsc9
      have HDK9 := hide hdk9
      have HK9 := hide (show Kept [xx] w8 w9 from ((Kept.refl [xx] w8).drew).trans hk9 (by simp))
      have HX9 := hide (show (fun W => Kept [xx] w8 W ∧ W.cell? ⟨b14, 0, none⟩ = some (.int .i64 x.s) ∧ W.cell? ⟨b14, 1, none⟩ = some (.int .i64 x.o) ∧ W.cell? ⟨b14, 2, none⟩ = some (.int .i64 x.l) ∧ W.cell? ⟨b14, 3, none⟩ = some (.int .i64 x.v) ∧ W.cell? ⟨b14, 4, none⟩ = some (.int .i64 x.m)) w9 from ⟨HK9.out, upto5 ⟨q0, q1, q2, q3', q4⟩ HK9.out (by have := HXX.out.2.2.1; simp; omega)⟩)
      refine hK.out _ _ (by exact HX9.out) (fun hHeld => ?_)
      clear hK K
      try simp only [Act.put, List.setIfInBounds_toArray, List.set_cons_zero, List.set_cons_succ]
      refine wpAnyH_take (i := 5) (oi := ⟨some 102, _, _, _, _, _⟩) (v := ?v24) rfl (by kernel_rfl) (by kernel_rfl) (by kernel_rfl) (fun _ _ _ h => h) (Or.inl ⟨by rfl, ?hy24⟩) (by assumption) ?rest24
      case hy24 => (intro W hSw; (try dsimp only at hSw); go_simp; try with_reducible rfl)
      try simp only [Act.put, List.setIfInBounds_toArray, List.set_cons_zero, List.set_cons_succ]
      refine wpAnyH_take (i := 8) (oi := ⟨some 105, _, _, _, _, _⟩) (v := ?v25) rfl (by kernel_rfl) (by kernel_rfl) (by kernel_rfl) (fun _ _ _ h => h) (Or.inl ⟨by rfl, ?hy25⟩) (by assumption) ?rest25
      case hy25 => (intro W hSw; (try dsimp only at hSw); go_simp; try with_reducible rfl)
      try simp only [Act.put, List.setIfInBounds_toArray, List.set_cons_zero, List.set_cons_succ]
      refine wpAnyH_take (i := 9) (oi := ⟨some 106, _, _, _, _, _⟩) (v := ?v26) rfl (by kernel_rfl) (by kernel_rfl) (by kernel_rfl) (fun _ _ _ h => h) (Or.inl ⟨by rfl, ?hy26⟩) (by assumption) ?rest26
      case hy26 => (intro W hSw; (try dsimp only at hSw); go_simp; try with_reducible rfl)
      try simp only [Act.put, List.setIfInBounds_toArray, List.set_cons_zero, List.set_cons_succ]
      refine wpAnyH_take (i := 10) (oi := ⟨some 107, _, _, _, _, _⟩) (v := ?v27) rfl (by kernel_rfl) (by kernel_rfl) (by kernel_rfl) (fun _ _ _ h => h) (Or.inl ⟨by rfl, ?hy27⟩) (by assumption) ?rest27
      case hy27 => (intro W hSw; (try dsimp only at hSw); go_simp; try with_reducible rfl)
      try simp only [Act.put, List.setIfInBounds_toArray, List.set_cons_zero, List.set_cons_succ]
      refine wpAnyH_take (i := 11) (oi := ⟨some 108, _, _, _, _, _⟩) (v := ?v28) rfl (by kernel_rfl) (by kernel_rfl) (by kernel_rfl) (fun _ _ _ h => h) (Or.inl ⟨by rfl, ?hy28⟩) (by assumption) ?rest28
      case hy28 => (intro W hSw; (try dsimp only at hSw); go_simp; try with_reducible rfl)
      try simp only [Act.put, List.setIfInBounds_toArray, List.set_cons_zero, List.set_cons_succ]
      refine wpAnyH_take (i := 13) (oi := ⟨some 110, _, _, _, _, _⟩) (v := ?v29) rfl (by kernel_rfl) (by kernel_rfl) (by kernel_rfl) (fun _ _ _ h => h) (Or.inl ⟨by rfl, ?hy29⟩) (by assumption) ?rest29
      case hy29 => (intro W hSw; (try dsimp only at hSw); go_simp; try with_reducible rfl)
      try simp only [Act.put, List.setIfInBounds_toArray, List.set_cons_zero, List.set_cons_succ]
      refine held_one (i := 12) (o := ⟨some 109, _, _, _, _, _⟩) rfl (by kernel_rfl) (by rfl) (fun K hK => ?_)
      go_simp
      refine (end_any xx _ _ _ _ _ _ _ _ HSC9.out).mono ?_
      rintro e w10 ⟨rfl, hk10⟩
      have HK10 := hide hk10
      unfold Ps.val
      have HX10 := hide (show (fun W => Kept [xx] w8 W ∧ W.cell? ⟨b14, 0, none⟩ = some (.int .i64 x.s) ∧ W.cell? ⟨b14, 1, none⟩ = some (.int .i64 x.o) ∧ W.cell? ⟨b14, 2, none⟩ = some (.int .i64 x.l) ∧ W.cell? ⟨b14, 3, none⟩ = some (.int .i64 x.v) ∧ W.cell? ⟨b14, 4, none⟩ = some (.int .i64 x.m)) w10 from ⟨HK9.out.trans hk10 (by simp), awk5 HX9.out.2 hk10⟩)
      refine hK.out _ _ (by exact HX10.out) (fun hHeld => ?_)
      clear hK K
      try simp only [Act.put, List.setIfInBounds_toArray, List.set_cons_zero, List.set_cons_succ]
      refine wpAnyH_take (i := 14) (oi := ⟨some 111, _, _, _, _, _⟩) (v := ?v30) rfl (by kernel_rfl) (by kernel_rfl) (by kernel_rfl) (fun _ _ _ h => h) (Or.inl ⟨by rfl, ?hy30⟩) (by assumption) ?rest30
      case hy30 => (intro W hSw; (try dsimp only at hSw); go_simp; try with_reducible rfl)
      try simp only [Act.put, List.setIfInBounds_toArray, List.set_cons_zero, List.set_cons_succ]
      refine wpAnyH_take (i := 15) (oi := ⟨some 112, _, _, _, _, _⟩) (v := ?v31) rfl (by kernel_rfl) (by kernel_rfl) (by kernel_rfl) (fun _ _ _ h => h) (Or.inl ⟨by rfl, ?hy31⟩) (by assumption) ?rest31
      case hy31 => (intro W hSw; (try dsimp only at hSw); go_simp; try with_reducible rfl)
      try simp only [Act.put, List.setIfInBounds_toArray, List.set_cons_zero, List.set_cons_succ]
      refine wpAnyH_done (by kernel_rfl) ?_ _
      refine NoPanic.normal ?_
      have HLO10 := hide (show Lo w10 w F1 G1 d rd g b7 b12 b14 D 3 8 64 r q ⟨1, 1, 7, 3, 2⟩ x from HLO8.out.keepS (HK9.out.trans HK10.out (by simp)) (by simpa using HXX.out.1) (by simpa using fun h => HXX.out.2.2.1.1 h.symm) (fun y hy => by have h := HXX.out.2.2.1; simp; rcases hy with rfl | rfl | rfl <;> omega) (by simpa using HXX.out.2.1))
      have HOF10 : Hid (Of w10 w F1 G1 g b7 b12 b14 A3 (j + 1) q3 (offsOf l x)) := hide ⟨own_keep HOF8.out.own (HK9.out.trans HK10.out (by simp)) (by simpa using HXX.out.2.2.2), HOF8.out.ap⟩
      have HSC10 := hide (HSC9.out.kept HK10.out (by simp))
      have hrd := round_any which (j : Int)
      obtain ⟨kk, hkk⟩ : ∃ kk : Nat, which % (j : Int) = (kk : Int) := ⟨(which % (j : Int)).toNat, by have := Int.emod_nonneg which (show (j : Int) ≠ 0 by omega); omega⟩
      have hklt : kk < j := by have := Int.emod_lt_of_pos which (show (0 : Int) < j by omega); omega
      simp only [hkk] at hrd
      have HRD := hide hrd
      obtain ⟨qk, R, hlk, hck, hok, hR, hst, ho1, ho2⟩ := HLGr.out.pick kk hklt
      obtain ⟨_, _, he3, _, hov⟩ := own_read HOF10.out.own
      cases he3
      obtain ⟨oa, rfl, _, u1⟩ := hov [] (by simp) kk (I qk.o) (by rw [List.getElem?_map, ho1]; rfl)
      obtain ⟨_, e4, _, u2⟩ := hov [] (by simp) (kk + 1) (I (qk.o + lenOf R)) (by rw [List.getElem?_map, ho2]; rfl)
      cases e4
      unfold I at u1 u2
      obtain ⟨k1, hk1⟩ : ∃ k1, kk + 1 = k1 := ⟨_, rfl⟩
      have hk1i : (kk : Int) + 1 = (k1 : Int) := by omega
      rw [hk1] at u2
      obtain ⟨ln, hln⟩ : ∃ ln, lenOf R = ln := ⟨_, rfl⟩
      obtain ⟨o1, hoo1⟩ : ∃ o1, qk.o = o1 := ⟨_, rfl⟩
      rw [hln, hoo1] at u2 hok
      rw [hoo1] at u1
      obtain ⟨o2, hoo2⟩ : ∃ o2, o1 + (ln : Int) = o2 := ⟨_, rfl⟩
      rw [hoo2] at u2
      have hln1 : 1 ≤ ln ∧ ln ≤ 64 := by unfold lenOf at hln; omega
      have hob : 1 ≤ o1 ∧ o1 ≤ 64 ∧ o2 ≤ 64 := by omega
      have hdif : o2 - o1 = (ln : Int) := by omega
      have hwd : IntKind.i64.wrap (o2 - o1) = (ln : Int) := by rw [hdif]; exact IntWalk.i64_in _ (by omega)
      have hrd2 := round_any at_ (512 * (ln : Int))
      obtain ⟨bt, hbt⟩ : ∃ bt : Nat, at_ % (512 * (ln : Int)) = (bt : Int) := ⟨(at_ % (512 * (ln : Int))).toNat, by have := Int.emod_nonneg at_ (show (512 * (ln : Int)) ≠ 0 by omega); omega⟩
      have hbtl : bt < 512 * ln := by have := Int.emod_lt_of_pos at_ (show (0 : Int) < 512 * (ln : Int) by omega); omega
      simp only [hbt] at hrd2
      have HRD2 := hide hrd2
      have HLK := sealed hlk
      have HCK := hide hck
      have HR := hide hR
      have HST := hide hst
      have HLN := sealed hln
      have HOO := sealed hoo1
      have HOO2 := sealed hoo2
      have hj1 : 1 ≤ j := h1
      have hk1j : k1 ≤ j ∧ 1 ≤ k1 := by omega
      have hk1l : (k1 : Int) < (j : Int) + 1 := by omega
      have hkkl : (kk : Int) < (j : Int) + 1 := by omega
      have hwk1 : IntKind.i64.wrap (k1 : Int) = (k1 : Int) := IntWalk.i64_in _ (by omega)
      clear hrd hrd2 hkk hbt hlk hck hR hst ho1 ho2 hov hk1 hln hoo1 hoo2 hHeld HX9 HX10 HLO8 HOF8 HSC HSC9 HK9 q0 q1 q2 q3' q4
      go_wp2_with fail
      refine (HRD.out _ (by omega) (by omega)).mono ?_
      rintro e w11 ⟨rfl, rfl⟩
      clear HRD
      go_wp2
      refine wp_region_noPanic ?_
      refine wp_region_held_drew (S := fun W => W.cell? (oa.add k1) = some (.int .i64 o2) ∧ W.cell? (oa.add kk) = some (.int .i64 o1)) (by kernel_rfl) (by exact ⟨u2, u1⟩) (fun hHeld => ?_)
      refine wpAnyH_take (i := 0) (oi := ⟨some 117, _, _, _, _, _⟩) (v := ?v32) rfl (by kernel_rfl) (by kernel_rfl) (by kernel_rfl) (fun _ _ _ h => h) (Or.inl ⟨by rfl, ?hy32⟩) (by assumption) ?rest32
      case hy32 => (intro W hSw; (try dsimp only at hSw); go_simp; try with_reducible rfl)
      try simp only [Act.put, List.setIfInBounds_toArray, List.set_cons_zero, List.set_cons_succ]
      refine wpAnyH_take (i := 1) (oi := ⟨some 118, _, _, _, _, _⟩) (v := ?v33) rfl (by kernel_rfl) (by kernel_rfl) (by kernel_rfl) (fun _ _ _ h => h) (Or.inl ⟨by rfl, ?hy33⟩) (by assumption) ?rest33
      case hy33 => (intro W hSw; (try dsimp only at hSw); go_simp; try with_reducible rfl)
      try simp only [Act.put, List.setIfInBounds_toArray, List.set_cons_zero, List.set_cons_succ]
      refine wpAnyH_take (i := 2) (oi := ⟨some 119, _, _, _, _, _⟩) (v := ?v34) rfl (by kernel_rfl) (by kernel_rfl) (by kernel_rfl) (fun _ _ _ h => h) (Or.inl ⟨by rfl, ?hy34⟩) (by assumption) ?rest34
      case hy34 => (intro W hSw; (try dsimp only at hSw); go_simp; try with_reducible rfl)
      try simp only [Act.put, List.setIfInBounds_toArray, List.set_cons_zero, List.set_cons_succ]
      refine wpAnyH_take (i := 3) (oi := ⟨some 120, _, _, _, _, _⟩) (v := ?v35) rfl (by kernel_rfl) (by kernel_rfl) (by kernel_rfl) (fun _ _ _ h => h) (Or.inl ⟨by rfl, ?hy35⟩) (by assumption) ?rest35
      case hy35 => (intro W hSw; (try dsimp only at hSw); go_simp; try with_reducible rfl)
      try simp only [Act.put, List.setIfInBounds_toArray, List.set_cons_zero, List.set_cons_succ]
      refine wpAnyH_take (i := 4) (oi := ⟨some 121, _, _, _, _, _⟩) (v := ?v36) rfl (by kernel_rfl) (by kernel_rfl) (by kernel_rfl) (fun _ _ _ h => h) (Or.inl ⟨by rfl, ?hy36⟩) (by assumption) ?rest36
      case hy36 => (intro W hSw; (try dsimp only at hSw); go_simp; try with_reducible rfl)
      try simp only [Act.put, List.setIfInBounds_toArray, List.set_cons_zero, List.set_cons_succ]
      refine wpAnyH_take (i := 5) (oi := ⟨some 122, _, _, _, _, _⟩) (v := ?v37) rfl (by kernel_rfl) (by kernel_rfl) (by kernel_rfl) (fun _ _ _ h => h) (Or.inl ⟨by rfl, ?hy37⟩) (by assumption) ?rest37
      case hy37 => (intro W hSw; (try dsimp only at hSw); go_simp; try with_reducible rfl)
      try simp only [Act.put, List.setIfInBounds_toArray, List.set_cons_zero, List.set_cons_succ]
      refine wpAnyH_take (i := 6) (oi := ⟨some 123, _, _, _, _, _⟩) (v := ?v38) rfl (by kernel_rfl) (by kernel_rfl) (by kernel_rfl) (fun _ _ _ h => h) (Or.inl ⟨by rfl, ?hy38⟩) (by assumption) ?rest38
      case hy38 => (intro W hSw; (try dsimp only at hSw); go_simp; try with_reducible rfl)
      try simp only [Act.put, List.setIfInBounds_toArray, List.set_cons_zero, List.set_cons_succ]
      refine wpAnyH_take (i := 7) (oi := ⟨some 124, _, _, _, _, _⟩) (v := ?v39) rfl (by kernel_rfl) (by kernel_rfl) (by kernel_rfl) (fun _ _ _ h => h) (Or.inl ⟨by rfl, ?hy39⟩) (by assumption) ?rest39
      case hy39 => (intro W hSw; (try dsimp only at hSw); go_simp; try with_reducible rfl)
      try simp only [Act.put, List.setIfInBounds_toArray, List.set_cons_zero, List.set_cons_succ]
      refine wpAnyH_take (i := 8) (oi := ⟨some 125, _, _, _, _, _⟩) (v := ?v40) rfl (by kernel_rfl) (by kernel_rfl) (by kernel_rfl) (fun _ _ _ h => h) (Or.inl ⟨by rfl, ?hy40⟩) (by assumption) ?rest40
      case hy40 => (intro W hSw; (try dsimp only at hSw); go_simp; try with_reducible rfl)
      try simp only [Act.put, List.setIfInBounds_toArray, List.set_cons_zero, List.set_cons_succ]
      refine wpAnyH_take (i := 9) (oi := ⟨some 126, _, _, _, _, _⟩) (v := ?v41) rfl (by kernel_rfl) (by kernel_rfl) (by kernel_rfl) (fun _ _ _ h => h) (Or.inl ⟨by rfl, ?hy41⟩) (by assumption) ?rest41
      case hy41 => (intro W hSw; (try dsimp only at hSw); go_simp; try with_reducible rfl)
      try simp only [Act.put, List.setIfInBounds_toArray, List.set_cons_zero, List.set_cons_succ]
      refine wpAnyH_take (i := 10) (oi := ⟨some 127, _, _, _, _, _⟩) (v := ?v42) rfl (by kernel_rfl) (by kernel_rfl) (by kernel_rfl) (fun _ _ _ h => h) (Or.inl ⟨by rfl, ?hy42⟩) (by assumption) ?rest42
      case hy42 => (intro W hSw; (try dsimp only at hSw); go_simp; try with_reducible rfl)
      try simp only [Act.put, List.setIfInBounds_toArray, List.set_cons_zero, List.set_cons_succ]
      refine wpAnyH_take (i := 11) (oi := ⟨some 18, _, _, _, _, _⟩) (v := ?v43) rfl (by kernel_rfl) (by kernel_rfl) (by kernel_rfl) (fun _ _ _ h => h) (Or.inl ⟨by rfl, ?hy43⟩) (by assumption) ?rest43
      case hy43 => (intro W hSw; (try dsimp only at hSw); go_simp; try with_reducible rfl)
      try simp only [Act.put, List.setIfInBounds_toArray, List.set_cons_zero, List.set_cons_succ]
      refine wpAnyH_done (by kernel_rfl) ?_ _
      refine NoPanic.normal ?_
      clear hHeld
      have hsz : ¬ (64 * (ln : Int)) < 64 := by omega
      have hsz2 : decide ((64 * (ln : Int)) < 64) = false := decide_eq_false hsz
      have h512 : 8 * (64 * (ln : Int)) = 512 * (ln : Int) := by omega
      go_wp2_with fail
      refine (HRD2.out _ (by omega) (by omega)).mono ?_
      rintro e w12 ⟨rfl, rfl⟩
      clear HRD2
      obtain ⟨bd, hbd⟩ : ∃ bd, bt / 512 = bd := ⟨_, rfl⟩
      have hq512 : ((bt : Int)).tdiv 512 = (bd : Int) := by rw [Int.tdiv_eq_ediv_of_nonneg (by omega)]; omega
      obtain ⟨sN, hsN⟩ : ∃ sN : Nat, (a : Int) + o1 + (bd : Int) = (sN : Int) := ⟨a + o1.toNat + bd, by omega⟩
      have hab := HN.out.2
      have hbd64 : bd ≤ 64 := by omega
      have hao : IntKind.i64.wrap ((a : Int) + o1) = (a : Int) + o1 := IntWalk.i64_in _ (by omega)
      have hws : IntKind.i64.wrap (sN : Int) = (sN : Int) := IntWalk.i64_in _ (by omega)
      have HBD := sealed hbd
      have HSN := sealed hsN
      have hk10d : Kept [] w10 w10.drew.drew := ((Kept.refl [] w10).drew).drew
      clear hbd
      go_wp2
      refine wp_region_noPanic ?_
      refine wp_region_held_drew (S := fun W => Kept [] w10 W ∧ W.cell? (oa.add kk) = some (.int .i64 o1)) (by kernel_rfl) (by exact ⟨hk10d, u1⟩) (fun hHeld => ?_)
      refine wpAnyH_take (i := 0) (oi := ⟨some 134, _, _, _, _, _⟩) (v := ?v44) rfl (by kernel_rfl) (by kernel_rfl) (by kernel_rfl) (fun _ _ _ h => h) (Or.inl ⟨by rfl, ?hy44⟩) (by assumption) ?rest44
      case hy44 => (intro W hSw; (try dsimp only at hSw); go_simp; try with_reducible rfl)
      try simp only [Act.put, List.setIfInBounds_toArray, List.set_cons_zero, List.set_cons_succ]
      refine wpAnyH_take (i := 2) (oi := ⟨some 136, _, _, _, _, _⟩) (v := ?v45) rfl (by kernel_rfl) (by kernel_rfl) (by kernel_rfl) (fun _ _ _ h => h) (Or.inl ⟨by rfl, ?hy45⟩) (by assumption) ?rest45
      case hy45 => (intro W hSw; (try dsimp only at hSw); go_simp; try with_reducible rfl)
      try simp only [Act.put, List.setIfInBounds_toArray, List.set_cons_zero, List.set_cons_succ]
      refine wpAnyH_take (i := 3) (oi := ⟨some 137, _, _, _, _, _⟩) (v := ?v46) rfl (by kernel_rfl) (by kernel_rfl) (by kernel_rfl) (fun _ _ _ h => h) (Or.inl ⟨by rfl, ?hy46⟩) (by assumption) ?rest46
      case hy46 => (intro W hSw; (try dsimp only at hSw); go_simp; try with_reducible rfl)
      try simp only [Act.put, List.setIfInBounds_toArray, List.set_cons_zero, List.set_cons_succ]
      refine wpAnyH_take (i := 4) (oi := ⟨some 138, _, _, _, _, _⟩) (v := ?v47) rfl (by kernel_rfl) (by kernel_rfl) (by kernel_rfl) (fun _ _ _ h => h) (Or.inl ⟨by rfl, ?hy47⟩) (by assumption) ?rest47
      case hy47 => (intro W hSw; (try dsimp only at hSw); go_simp; try with_reducible rfl)
      try simp only [Act.put, List.setIfInBounds_toArray, List.set_cons_zero, List.set_cons_succ]
      refine wpAnyH_take (i := 5) (oi := ⟨some 139, _, _, _, _, _⟩) (v := ?v48) rfl (by kernel_rfl) (by kernel_rfl) (by kernel_rfl) (fun _ _ _ h => h) (Or.inl ⟨by rfl, ?hy48⟩) (by assumption) ?rest48
      case hy48 => (intro W hSw; (try dsimp only at hSw); go_simp; try with_reducible rfl)
      try simp only [Act.put, List.setIfInBounds_toArray, List.set_cons_zero, List.set_cons_succ]
      refine wpAnyH_take (i := 7) (oi := ⟨some 141, _, _, _, _, _⟩) (v := ?v49) rfl (by kernel_rfl) (by kernel_rfl) (by kernel_rfl) (fun _ _ _ h => h) (Or.inl ⟨by rfl, ?hy49⟩) (by assumption) ?rest49
      case hy49 => (intro W hSw; (try dsimp only at hSw); go_simp; try with_reducible rfl)
      try simp only [Act.put, List.setIfInBounds_toArray, List.set_cons_zero, List.set_cons_succ]
      refine wpAnyH_take (i := 8) (oi := ⟨some 142, _, _, _, _, _⟩) (v := ?v50) rfl (by kernel_rfl) (by kernel_rfl) (by kernel_rfl) (fun _ _ _ h => h) (Or.inl ⟨by rfl, ?hy50⟩) (by assumption) ?rest50
      case hy50 => (intro W hSw; (try dsimp only at hSw); go_simp; try with_reducible rfl)
      try simp only [Act.put, List.setIfInBounds_toArray, List.set_cons_zero, List.set_cons_succ]
      refine held_one (i := 1) (o := ⟨some 135, _, _, _, _, _⟩) rfl (by kernel_rfl) (by rfl) (fun K hK => ?_)
      go_simp
      refine (geom.seg_any g 3 8 64 r q 1 _ (HLO10.out.lw.geo.kept hHeld.1)).mono ?_
      rintro e w13 ⟨rfl, hk13⟩
      rw [segAt_in (by decide), HAA.out]
      have HK13 := hide (show Kept [] w10 w13 from hHeld.1.trans hk13 (by simp))
      have HX13 := hide (show (fun W => Kept [] w10 W ∧ W.cell? (oa.add kk) = some (.int .i64 o1)) w13 from ⟨HK13.out, hk13.cell hHeld.2 (by simp)⟩)
      refine hK.out _ _ (by exact HX13.out) (fun hHeld => ?_)
      clear hK K
      try simp only [Act.put, List.setIfInBounds_toArray, List.set_cons_zero, List.set_cons_succ]
      refine wpAnyH_take (i := 6) (oi := ⟨some 140, _, _, _, _, _⟩) (v := ?v51) rfl (by kernel_rfl) (by kernel_rfl) (by kernel_rfl) (fun _ _ _ h => h) (Or.inl ⟨by rfl, ?hy51⟩) (by assumption) ?rest51
      case hy51 => (intro W hSw; (try dsimp only at hSw); go_simp; try with_reducible rfl)
      try simp only [Act.put, List.setIfInBounds_toArray, List.set_cons_zero, List.set_cons_succ]
      refine wpAnyH_take (i := 9) (oi := ⟨some 143, _, _, _, _, _⟩) (v := ?v52) rfl (by kernel_rfl) (by kernel_rfl) (by kernel_rfl) (fun _ _ _ h => h) (Or.inl ⟨by rfl, ?hy52⟩) (by assumption) ?rest52
      case hy52 => (intro W hSw; (try dsimp only at hSw); go_simp; try with_reducible rfl)
      try simp only [Act.put, List.setIfInBounds_toArray, List.set_cons_zero, List.set_cons_succ]
      refine wpAnyH_take (i := 10) (oi := ⟨some 20, _, _, _, _, _⟩) (v := ?v53) rfl (by kernel_rfl) (by kernel_rfl) (by kernel_rfl) (fun _ _ _ h => h) (Or.inl ⟨by rfl, ?hy53⟩) (by assumption) ?rest53
      case hy53 => (intro W hSw; (try dsimp only at hSw); go_simp; try with_reducible rfl)
      try simp only [Act.put, List.setIfInBounds_toArray, List.set_cons_zero, List.set_cons_succ]
      refine wpAnyH_done (by kernel_rfl) ?_ _
      refine NoPanic.normal ?_
      have HLO13 := hide (HLO10.out.keep HK13.out)
      have HOF13 := hide (HOF10.out.keep HK13.out)
      have HSC13 := hide (HSC10.out.kept HK13.out (by simp))
      have hsnD : sN < D.n := by have h1 := HLGr.out.seg.room; have h2 := HBD.out; have h3 := HSN.out; omega
      have HRDD := sealed (HLGr.out.seg.reads.read sN hsnD)
      have HSNL := hide (HLGr.out.seg.reads.sec sN hsnD)
      clear HLO10 HOF10 HSC10 hk10d u1 u2
      go_wp2_with fail
      refine (read_own d F1 D (sN : Int) _ HLO13.out.lw.dd.a).mono ?_
      rintro e w14 ⟨⟨Ab, cb, rfl, _, hownb⟩, hk14⟩
      rw [HRDD.out] at hownb ⊢
      dsimp only at hownb ⊢
      rw [HSNL.out] at hownb ⊢
      obtain ⟨b0, hb0⟩ : ∃ b0, disk.sec D.now sN = b0 := ⟨_, rfl⟩
      rw [hb0] at hownb
      have HB0 := hide (show b0 = disk.sec D.now sN from hb0.symm)
      have hb0l : b0.length = 64 := by rw [← hb0]; exact HSNL.out
      clear hb0
      obtain ⟨gb, hgb, hgl, hrow⟩ := row64 hownb
      obtain rfl : Ab = _ := hgb
      have HROW := hide hrow
      have HGL := hide hgl
      have HBL := hide (show (∀ y ∈ F1 ++ G1, y < w13.heap.size) ∧ xx < w13.heap.size ∧ (∀ y ∈ (Value.slice (some oa) (j + 1) q3).ownBlock.toList, y < w13.heap.size) from ⟨fun y hy => HLO13.out.lw.dd.lt y hy, HSC13.out.lt, fun y hy => (own_blk HOF13.out.own y hy).2.1⟩)
      have HLOW := hide (show w.heap.size ≤ w13.heap.size from HLO13.out.lw.kept.size)
      have HK1314 := hide hk14
      have HOF14 := hide (HOF13.out.keep hk14)
      have HLO14 := hide (HLO13.out.keep hk14)
      have HK14 := hide (HK13.out.trans hk14 (by simp))
      have HSC14 := hide (HSC13.out.kept hk14 (by simp))
      have hX14 := hk14.cell hHeld.2 (by simp)
      clear hownb hrow hgl hk14 HOF13 HLO13 HSC13
      obtain ⟨b8, hb8⟩ : ∃ b8, bt / 8 = b8 := ⟨_, rfl⟩
      obtain ⟨bi, hbi⟩ : ∃ bi, b8 % 64 = bi := ⟨_, rfl⟩
      obtain ⟨br, hbr⟩ : ∃ br, bt % 8 = br := ⟨_, rfl⟩
      have hbtm : bt < 32768 := by omega
      have g0 : (bt : Int).tdiv 8 = (b8 : Int) := by rw [Int.tdiv_eq_ediv_of_nonneg (by omega)]; omega
      have g1 : IntKind.i64.wrap (b8 : Int) = (b8 : Int) := IntWalk.i64_in _ (by omega)
      have g2 : (b8 : Int).tmod 64 = (bi : Int) := by rw [IntWalk.rem_in _ _ (by omega)]; omega
      have g3 : (bt : Int).tmod 8 = (br : Int) := by rw [IntWalk.rem_in _ _ (by omega)]; omega
      have hbr8 : br < 8 := by omega
      have hbi64 : bi < 64 := by omega
      have hbi64' : (bi : Int) < 64 := by omega
      have hbi0 : ¬ (bi : Int) < 0 := by omega
      have hbi64n : ¬ (64 : Int) ≤ (bi : Int) := by omega
      have hbin : ((bi : Int)).toNat = bi := Int.toNat_natCast bi
      have g4 : IntKind.u8.wrap (2 ^ br) = (2 ^ br : Int) := by
        have : br = 0 ∨ br = 1 ∨ br = 2 ∨ br = 3 ∨ br = 4 ∨ br = 5 ∨ br = 6 ∨ br = 7 := by omega
        rcases this with rfl | rfl | rfl | rfl | rfl | rfl | rfl | rfl <;> decide
      have g5 : IntKind.i64.wrap (bi : Int) = (bi : Int) := IntWalk.i64_in _ (by omega)
      have g6 : IntKind.i64.wrap (br : Int) = (br : Int) := IntWalk.i64_in _ (by omega)
      have hy : b0[bi]? = some (b0.getD bi 0) := by rw [List.getD_eq_getElem?_getD, List.getElem?_eq_getElem (by omega)]; rfl
      have hcb : w14.cell? ⟨gb, bi, none⟩ = some (B (b0.getD bi 0)) := HROW.out.cell (by rw [List.getElem?_map, hy]; rfl)
      obtain ⟨y, hyy⟩ : ∃ y, b0.getD bi 0 = y := ⟨_, rfl⟩
      rw [hyy] at hcb
      unfold B at hcb
      have hfz := HROW.out.frozen bi
      obtain ⟨xb, hxb, hbx⟩ := crc.turn_byte y br hbr8
      have HXB := hide hxb
      have HYY := hide hyy
      have HB8 := hide hb8
      have HBI := hide hbi
      have HBR := hide hbr
      have HB0L := hide hb0l
      clear hxb hyy hb8 hbi hbr hb0l hy
      go_wp2
      go_still_tail 15, (by kernel_rfl)
      change wpList _ _ _ _ _ (World.drew w14)
      go_wp2_with fail
      have hrS : Row (w14.setCell ⟨gb, bi, none⟩ (.int .u8 (xb.toNat : Int))).drew gb 5 ((b0.set bi xb).map B) := by rw [List.map_set]; exact (HROW.out.set_ bi (B xb)).drew
      have hkS : Kept [gb] w14 (w14.setCell ⟨gb, bi, none⟩ (.int .u8 (xb.toNat : Int))).drew := ((Kept.refl [gb] w14).set_ (b := gb) (.inl (by simp)) bi (.int .u8 (xb.toNat : Int))).drew
      generalize (w14.setCell ⟨gb, bi, none⟩ (.int .u8 (xb.toNat : Int))).drew = wS at hrS hkS ⊢
      have HRS := hide hrS
      have HKS := hide hkS
      have hgF : ∀ y ∈ F1 ++ G1, y ≠ gb := fun y hy => by have h1 := HBL.out.1 y hy; have h2 := HGL.out; omega
      have HGF := hide hgF
      have HSCS := hide (HSC14.out.kept hkS (by have h1 := HBL.out.2.1; have h2 := HGL.out; simp; omega))
      clear hrS hkS hgF hcb hfz hbx
      refine (write_at d F1 D ((a : Int) + o1 + (bd : Int)) (some ⟨gb, 0, none⟩) 64 cb (b0.set bi xb) _ (HLO14.out.lw.dd.a.kept HKS.out (fun y hy => by have := HGF.out y (by simp [hy]); simpa using this)) (by have := HDr.out.2; omega) (HRS.out.vals0 (fun hm => HGF.out gb (by simp [hm]) rfl)) (by rw [List.length_set]; exact HB0L.out)).mono ?_
      rintro e w16 ⟨rfl, ht⟩
      rw [HSN.out] at ht ⊢
      obtain ⟨e1, e2, e3, e4, e5⟩ := HLGr.out.broke HCK.out (by rw [HOO.out, HLN.out]; exact hok) HR.out HST.out bt (by rw [HLN.out]; exact hbtl) sN (by rw [HOO.out]; have h1 := HBD.out; have h2 := HSN.out; omega) b0 HB0.out (b0.set bi xb) (by rw [HB8.out, HBI.out, HBR.out, HYY.out, ← HXB.out, UInt8.ofNat_toNat])
      rw [e1]
      obtain ⟨D2, hD2⟩ : ∃ D2, (D.write (sN : Int) (b0.set bi xb)).2 = D2 := ⟨_, rfl⟩
      rw [hD2] at ht e2 e3 e4 e5
      obtain ⟨F2, hv2, hF2, hk2⟩ := ht
      have HV2 := hide hv2
      have HF2 := hide hF2
      have HK2 := hide hk2
      have HE5 := sealed e5
      have HE2 := hide e2
      have HSC16 := hide (HSCS.out.kept hk2 (fun hm => HXX.out.1 (by simp [hm])))
      clear e1 e2 e3 e4 e5 hv2 hF2 hk2 hD2 HSCS
      obtain ⟨l2, hl2⟩ : ∃ l2, l.take kk = l2 := ⟨_, rfl⟩
      have hl2k : l2.length = kk := by rw [← hl2, List.length_take, HLLN.out]; omega
      have HL2 := sealed hl2
      have HL2K := sealed hl2k
      have HE6 := sealed (show scanOf D2 a 64 ⟨1, 0, 0, 0, 0⟩ true = (l2, qk, 0) from by rw [← hl2]; exact HE5.out)
      have HW16 := hide (show Kept [] w w16 from ((HLO14.out.lw.kept.trans HKS.out (fun i hi => by have h1 := HGL.out; have h2 := HK14.out.size; have h3 := HLO14.out.lw.kept.size; have h4 := HLOW.out; simp at hi; exact .inr (by omega))).trans HK2.out (fun i hi => .inr (HLO14.out.lw.new i (by simp [hi])))))
      have hown16 := own_keep (own_keep HOF14.out.own HKS.out (fun i hi hm => by have h1 := HBL.out.2.2 i hm; have h2 := HGL.out; simp at hi; omega)) HK2.out (fun i hi hm => (HOF14.out.ap i hm).1 (by simp [hi]))
      have HOWN16 := hide hown16
      clear hl2 hl2k hown16
      go_wp2_with fail
      refine (walk_any F2 D2 HE2.out.ok xx _ _ _ _ _ _ _ l2 qk 0 99 _ HE6.out (by rw [HL2K.out]; omega) (by rw [HL2K.out]; omega) HSC16.out (fun _ => ⟨d, rfl, HV2.out⟩) (fun y hy => HV2.out.lt y hy) (fun hm => (HF2.out xx hm).elim (fun h1 => HXX.out.1 (by simp [h1])) (fun h1 => by have h2 := HBL.out.2.1; have h3 := HK1314.out.size; have h4 := HKS.out.size; omega)) (by have := HN.out; omega) (by omega)).mono ?_
      rintro e w17 ⟨A5, c5, xs5, rfl, hc5, hv5, hf5, hsc17, _, hk17⟩
      rw [HL2K.out] at hc5 ⊢
      have HV5 := hide hv5
      have HF5 := hide hf5
      have HSC17 := hide hsc17
      have HW17 := hide (show Kept [] w w17 from HW16.out.trans hk17 (fun i hi => by have := HXX.out.2.1; simp at hi; exact .inr (by omega)))
      have HOWN17 := hide (own_keep HOWN16.out hk17 (fun i hi hm => by simp at hi; exact HXX.out.2.2.2 (hi ▸ hm)))
      obtain ⟨_, _, he7, _, hov7⟩ := own_read HOWN17.out
      cases he7
      have HOV := hide (hov7 [] (by simp))
      obtain ⟨qk7, R7, hlk7, _, _, _, _, ho7, _⟩ := HLGr.out.pick kk hklt
      rw [HLK.out] at hlk7
      cases hlk7
      obtain ⟨_, e7, _, u17⟩ := HOV.out kk (I qk.o) (by rw [List.getElem?_map, ho7]; rfl)
      cases e7
      rw [HOO.out] at u17
      unfold I at u17
      clear hv5 hf5 hsc17 hk17 hov7 ho7
      have hfl := fun W => field_b qk.s o1 qk.l qk.v qk.m W
      go_wp2
      refine wp_region_noPanic ?_
      refine wp_region_held_drew (S := fun W => Kept [] w17 W ∧ W.cell? (oa.add kk) = some (.int .i64 o1)) (by kernel_rfl) (by exact ⟨(Kept.refl _ w17).drew, u17⟩) (fun hHeld => ?_)
      refine wpAnyH_take (i := 0) (oi := ⟨some 179, _, _, _, _, _⟩) (v := ?v54) rfl (by kernel_rfl) (by kernel_rfl) (by kernel_rfl) (fun _ _ _ h => h) (Or.inl ⟨by rfl, ?hy54⟩) (by assumption) ?rest54
      case hy54 => (intro W hSw; (try dsimp only at hSw); go_simp; try with_reducible rfl)
      try simp only [Act.put, List.setIfInBounds_toArray, List.set_cons_zero, List.set_cons_succ]
      refine wpAnyH_take (i := 1) (oi := ⟨some 180, _, _, _, _, _⟩) (v := ?v55) rfl (by kernel_rfl) (by kernel_rfl) (by kernel_rfl) (fun _ _ _ h => h) (Or.inl ⟨by rfl, ?hy55⟩) (by assumption) ?rest55
      case hy55 => (intro W hSw; (try dsimp only at hSw); go_simp; try with_reducible rfl)
      try simp only [Act.put, List.setIfInBounds_toArray, List.set_cons_zero, List.set_cons_succ]
      refine wpAnyH_take (i := 2) (oi := ⟨some 181, _, _, _, _, _⟩) (v := ?v56) rfl (by kernel_rfl) (by kernel_rfl) (by kernel_rfl) (fun _ _ _ h => h) (Or.inl ⟨by rfl, ?hy56⟩) (by assumption) ?rest56
      case hy56 => (intro W hSw; (try dsimp only at hSw); go_simp; try with_reducible rfl)
      try simp only [Act.put, List.setIfInBounds_toArray, List.set_cons_zero, List.set_cons_succ]
      refine wpAnyH_take (i := 3) (oi := ⟨some 182, _, _, _, _, _⟩) (v := ?v57) rfl (by kernel_rfl) (by kernel_rfl) (by kernel_rfl) (fun _ _ _ h => h) (Or.inl ⟨by rfl, ?hy57⟩) (by assumption) ?rest57
      case hy57 => (intro W hSw; (try dsimp only at hSw); go_simp; try with_reducible rfl)
      try simp only [Act.put, List.setIfInBounds_toArray, List.set_cons_zero, List.set_cons_succ]
      refine wpAnyH_take (i := 4) (oi := ⟨some 183, _, _, _, _, _⟩) (v := ?v58) rfl (by kernel_rfl) (by kernel_rfl) (by kernel_rfl) (fun _ _ _ h => h) (Or.inl ⟨by rfl, ?hy58⟩) (by assumption) ?rest58
      case hy58 => (intro W hSw; (try dsimp only at hSw); go_simp; try with_reducible rfl)
      try simp only [Act.put, List.setIfInBounds_toArray, List.set_cons_zero, List.set_cons_succ]
      refine wpAnyH_take (i := 5) (oi := ⟨some 184, _, _, _, _, _⟩) (v := ?v59) rfl (by kernel_rfl) (by kernel_rfl) (by kernel_rfl) (fun _ _ _ h => h) (Or.inl ⟨by rfl, ?hy59⟩) (by assumption) ?rest59
      case hy59 => (intro W hSw; (try dsimp only at hSw); go_simp; try with_reducible rfl)
      try simp only [Act.put, List.setIfInBounds_toArray, List.set_cons_zero, List.set_cons_succ]
      refine wpAnyH_take (i := 8) (oi := ⟨some 187, _, _, _, _, _⟩) (v := ?v60) rfl (by kernel_rfl) (by kernel_rfl) (by kernel_rfl) (fun _ _ _ h => h) (Or.inl ⟨by rfl, ?hy60⟩) (by assumption) ?rest60
      case hy60 => (intro W hSw; (try dsimp only at hSw); go_simp; try with_reducible rfl)
      try simp only [Act.put, List.setIfInBounds_toArray, List.set_cons_zero, List.set_cons_succ]
      refine wpAnyH_take (i := 9) (oi := ⟨some 188, _, _, _, _, _⟩) (v := ?v61) rfl (by kernel_rfl) (by kernel_rfl) (by kernel_rfl) (fun _ _ _ h => h) (Or.inl ⟨by rfl, ?hy61⟩) (by assumption) ?rest61
      case hy61 => (intro W hSw; (try dsimp only at hSw); go_simp; try with_reducible rfl)
      try simp only [Act.put, List.setIfInBounds_toArray, List.set_cons_zero, List.set_cons_succ]
      refine wpAnyH_take (i := 10) (oi := ⟨some 189, _, _, _, _, _⟩) (v := ?v62) rfl (by kernel_rfl) (by kernel_rfl) (by kernel_rfl) (fun _ _ _ h => h) (Or.inl ⟨by rfl, ?hy62⟩) (by assumption) ?rest62
      case hy62 => (intro W hSw; (try dsimp only at hSw); go_simp; try with_reducible rfl)
      try simp only [Act.put, List.setIfInBounds_toArray, List.set_cons_zero, List.set_cons_succ]
      refine wpAnyH_take (i := 11) (oi := ⟨some 190, _, _, _, _, _⟩) (v := ?v63) rfl (by kernel_rfl) (by kernel_rfl) (by kernel_rfl) (fun _ _ _ h => h) (Or.inl ⟨by rfl, ?hy63⟩) (by assumption) ?rest63
      case hy63 => (intro W hSw; (try dsimp only at hSw); go_simp; try with_reducible rfl)
      try simp only [Act.put, List.setIfInBounds_toArray, List.set_cons_zero, List.set_cons_succ]
      refine held_one (i := 6) (o := ⟨some 185, _, _, _, _, _⟩) rfl (by kernel_rfl) (by rfl) (fun K hK => ?_)
      go_simp
      refine (end_any xx _ _ _ _ _ _ _ _ (HSC17.out.kept hHeld.1 (by simp))).mono ?_
      rintro e w18 ⟨rfl, hk18⟩
      unfold Ps.val
      rw [HOO.out]
      have HK18 := hide (show Kept [] w17 w18 from hHeld.1.trans hk18 (by simp))
      have HX18 := hide (show (fun W => Kept [] w17 W ∧ W.cell? (oa.add kk) = some (.int .i64 o1)) w18 from ⟨HK18.out, hk18.cell hHeld.2 (by simp)⟩)
      refine hK.out _ _ (by exact HX18.out) (fun hHeld => ?_)
      clear hK K
      try simp only [Act.put, List.setIfInBounds_toArray, List.set_cons_zero, List.set_cons_succ]
      refine wpAnyH_take (i := 7) (oi := ⟨some 186, _, _, _, _, _⟩) (v := ?v64) rfl (by kernel_rfl) (by kernel_rfl) (by kernel_rfl) (fun _ _ _ h => h) (Or.inl ⟨by rfl, ?hy64⟩) (by assumption) ?rest64
      case hy64 => (intro W hSw; (try dsimp only at hSw); go_simp; try with_reducible rfl)
      try simp only [Act.put, List.setIfInBounds_toArray, List.set_cons_zero, List.set_cons_succ]
      refine wpAnyH_take (i := 12) (oi := ⟨some 191, _, _, _, _, _⟩) (v := ?v65) rfl (by kernel_rfl) (by kernel_rfl) (by kernel_rfl) (fun _ _ _ h => h) (Or.inl ⟨by rfl, ?hy65⟩) (by assumption) ?rest65
      case hy65 => (intro W hSw; (try dsimp only at hSw); go_simp; try with_reducible rfl)
      try simp only [Act.put, List.setIfInBounds_toArray, List.set_cons_zero, List.set_cons_succ]
      refine wpAnyH_take (i := 13) (oi := ⟨some 192, _, _, _, _, _⟩) (v := ?v66) rfl (by kernel_rfl) (by kernel_rfl) (by kernel_rfl) (fun _ _ _ h => h) (Or.inl ⟨by rfl, ?hy66⟩) (by assumption) ?rest66
      case hy66 => (intro W hSw; (try dsimp only at hSw); go_simp; try with_reducible rfl)
      try simp only [Act.put, List.setIfInBounds_toArray, List.set_cons_zero, List.set_cons_succ]
      refine wpAnyH_take (i := 14) (oi := ⟨some 193, _, _, _, _, _⟩) (v := ?v67) rfl (by kernel_rfl) (by kernel_rfl) (by kernel_rfl) (fun _ _ _ h => h) (Or.inl ⟨by rfl, ?hy67⟩) (by assumption) ?rest67
      case hy67 => (intro W hSw; (try dsimp only at hSw); go_simp; try with_reducible rfl)
      try simp only [Act.put, List.setIfInBounds_toArray, List.set_cons_zero, List.set_cons_succ]
      refine wpAnyH_take (i := 15) (oi := ⟨some 194, _, _, _, _, _⟩) (v := ?v68) rfl (by kernel_rfl) (by kernel_rfl) (by kernel_rfl) (fun _ _ _ h => h) (Or.inl ⟨by rfl, ?hy68⟩) (by assumption) ?rest68
      case hy68 => (intro W hSw; (try dsimp only at hSw); go_simp; try with_reducible rfl)
      try simp only [Act.put, List.setIfInBounds_toArray, List.set_cons_zero, List.set_cons_succ]
      refine held_one (i := 16) (o := ⟨some 195, _, _, _, _, _⟩) rfl (by kernel_rfl) (by rfl) (fun K hK => ?_)
      go_simp
      refine (err_any xx _ _ _ _ _ _ _ _ (HSC17.out.kept HK18.out (by simp))).mono ?_
      rintro e w19 ⟨rfl, rfl⟩
      refine hK.out _ _ (by exact HX18.out) (fun hHeld => ?_)
      clear hK K
      try simp only [Act.put, List.setIfInBounds_toArray, List.set_cons_zero, List.set_cons_succ]
      refine wpAnyH_take (i := 17) (oi := ⟨some 196, _, _, _, _, _⟩) (v := ?v69) rfl (by kernel_rfl) (by kernel_rfl) (by kernel_rfl) (fun _ _ _ h => h) (Or.inl ⟨by rfl, ?hy69⟩) (by assumption) ?rest69
      case hy69 => (intro W hSw; (try dsimp only at hSw); go_simp; try with_reducible rfl)
      try simp only [Act.put, List.setIfInBounds_toArray, List.set_cons_zero, List.set_cons_succ]
      refine wpAnyH_take (i := 18) (oi := ⟨some 197, _, _, _, _, _⟩) (v := ?v70) rfl (by kernel_rfl) (by kernel_rfl) (by kernel_rfl) (fun _ _ _ h => h) (Or.inl ⟨by rfl, ?hy70⟩) (by assumption) ?rest70
      case hy70 => (intro W hSw; (try dsimp only at hSw); go_simp; try with_reducible rfl)
      try simp only [Act.put, List.setIfInBounds_toArray, List.set_cons_zero, List.set_cons_succ]
      refine wpAnyH_done (by kernel_rfl) ?_ _
      refine NoPanic.normal ?_
      clear hHeld u17 hfl
      go_wp2
      go_loopw [24] (fun i wr => ∃ k : Nat, k ≤ kk ∧ i = .int .i64 (k : Int) ∧ Hid (Kept [] w17 wr)) (fun i wr => kk - (intOf i).toNat)
      case atStart => exact ⟨0, Nat.zero_le _, rfl, HK18⟩
      case round =>
        obtain ⟨k, hkk7, rfl, HKr⟩ := hrel
        by_cases hlt2 : k < kk
        · obtain ⟨qk8, R8, hlk8, _, _, _, _, ho8, _⟩ := HLGr.out.pick k (by omega)
          have hlt3 : (k : Int) < kk := by omega
          have hlt4 : (k : Int) < (j : Int) + 1 := by omega
          have htk : l2[k]? = some (qk8, R8) := by rw [← HL2.out, List.getElem?_take_of_lt hlt2]; exact hlk8
          obtain ⟨a5, e8, _, ca⟩ := HV5.out (k * 6) (I qk8.o) (fnd_off HF5.out htk)
          obtain rfl := e8
          obtain ⟨_, e9, _, cb8⟩ := HOV.out k (I qk8.o) (by rw [List.getElem?_map, ho8]; rfl)
          cases e9
          have ca8 := HKr.out.cell ca (by simp)
          have co8 := HKr.out.cell cb8 (by simp)
          unfold I at ca8 co8
          have hw8 : IntKind.i64.wrap ((k : Int) + 1) = ((k + 1 : Nat) : Int) := by rw [IntWalk.i64_in _ (by omega)]; omega
          clear ca cb8 htk ho8 hlk8
          go_wp2
          go_quiet (fail)
          go_wp2
          refine ⟨⟨k + 1, by omega, by go_num, hide (HKr.out.drewN _)⟩, by simp [intOf]; omega⟩
        · have hlt3 : ¬ (k : Int) < kk := by omega
          go_wp2_with fail
          refine (awake_any _).mono ?_
          rintro e w20 ⟨rfl, hk20⟩
          have HK20 := hide ((HW17.out.trans HKr.out (by simp)).trans hk20 (by simp))
          clear hk20
          go_wp2
          go_ret
          exact ⟨rfl, HK20.out⟩
end Go.Proofs.YtjbdjdlmpcbakaaGreat.sc
