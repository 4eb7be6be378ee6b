/- The laws' made. (Written by tools/genrgmade.py.) -/
import Derived.Test.YthacnlpdodlggaaRegionLaw
import Derived.Test.YthacnlpdodlggaaOrders
namespace Go.Proofs.Ythacnlpdodlggaa.rg
set_option linter.unusedSimpArgs false
open Go.RowKit Go.Proofs.Ythacnlpdodlggaa.mem Go.Proofs.Ythacnlpdodlggaa.base Go.Proofs.Ythacnlpdodlggaa.row

theorem next_rb (rb : Nat) (N : Option Addr) (l : List Int) (n c k : Nat) (m : Int) (w00 w : World) (hv : Vals w00 [] N (l.map I)) (hl : l.length = n) (hk0 : Kept [] w00 w) (hrb : w00.heap.size ≤ rb) (h : Blk w rb 98 #[.slice N n c, .int .i64 (k : Int)]) (hm : 1 ≤ m) (hm2 : m ≤ 4294967296) (hk : k ≤ 1000) :
    Calls Try.prog 56 #[.pointer (some ⟨rb, 0, none⟩), .int .i64 m] w fun e w' => ∃ y : Nat, e = .returned (.int .i64 (y : Int)) ∧ (y : Int) < m ∧ Blk w' rb 98 #[.slice N n c, .int .i64 ((k + 1 : Nat) : Int)] ∧ Kept [rb] w w' := by
  subst hl
  exact (next_any rb N l c k m w ⟨h, hv.far hk0 (by simp; exact hrb)⟩ hm hm2 hk).mono fun e w' ⟨y, h1, h2, h3, h4⟩ => ⟨y, h1, h2, h3.blk, h4⟩
theorem usVals_set1 (l : List Us) (k : Nat) (x : Us) (s : Int) (hx : l[k]? = some x) : (usVals l).set (k * 2) (.int .i64 s) = usVals (l.set k ⟨s, x.t⟩) := by
  obtain ⟨hk, e⟩ := List.getElem?_eq_some_iff.1 hx
  rw [← usVals_set l k ⟨s, x.t⟩ hk]
  have h1 : ((usVals l).set (k * 2) (.int .i64 s))[k * 2 + 1]? = some (.int .i64 x.t) := by
    rw [List.getElem?_set_ne (by omega), Nat.mul_comm k 2, usVals_at l k x hx 1 (by omega)]
    rfl
  obtain ⟨h2, e2⟩ := List.getElem?_eq_some_iff.1 h1
  have h3 := List.set_getElem_self h2
  rw [e2] at h3
  exact h3.symm
/-- The State of one use is set. -/
theorem MR.open_ {wr w : World} {g s Bz : Nat} {T : Rg} {v u z : Value} (h : MR wr w g s Bz T v u z) (hgs : g < Bz) (hs : s < Bz) (hwB : w.heap.size ≤ Bz) (i : Nat) (x : Us) (hx : T.us[i]? = some x) :
    ∃ gz c, z = .slice (some ⟨gz, 0, none⟩) T.us.length c ∧ Bz ≤ gz ∧ wr.cell? ⟨gz, i * 2, none⟩ = some (.int .i64 x.s) ∧ wr.frozen? ⟨gz, i * 2, none⟩ = false ∧ MR (wr.setCell ⟨gz, i * 2, none⟩ (.int .i64 1)) w g s Bz { T with us := T.us.set i ⟨1, x.t⟩ } v u z := by
  have hi := (List.getElem?_eq_some_iff.1 hx).1
  have avz := own_apart h.bs h.us (by decide)
  have auz := own_apart h.ov h.us (by decide)
  rcases h.us.2 with ⟨_, h0⟩ | ⟨gz, cap, cur, rfl, hb, hh, hn, hm, hsz, ht⟩
  · omega
  · have hB : Blk wr gz 79 cur := hh
    have hc : wr.cell? ⟨gz, i * 2, none⟩ = some (.int .i64 x.s) := by
      have e := usVals_at T.us i x hx 0 (by omega)
      rw [← ht, List.getElem?_take_of_lt (by omega)] at e
      rw [hB.cell, Nat.mul_comm i 2]
      simpa [Us.vals] using e
    have ks : Kept [gz] wr (wr.setCell ⟨gz, i * 2, none⟩ (.int .i64 1)) := (Kept.refl [gz] wr).set_ (b := gz) (.inl (by simp)) _ _
    have h1 := hB.set_ (i * 2) (.int .i64 1)
    refine ⟨gz, cap, rfl, hb, hc, hB.frozen _, ⟨ks.blk h.rec_ (by simp; omega), own_keep h.bs ks (fun j hj hm => avz j hm (by simp at hj; subst hj; simp [Value.ownBlock])), own_keep h.ov ks (fun j hj hm => auz j hm (by simp at hj; subst hj; simp [Value.ownBlock])), ?_, h.apart, ks.blk h.zero (by simp; omega), h.kept.trans ks (by simp; omega), Nat.le_trans h.size ks.size⟩⟩
    dsimp only
    refine ⟨by rw [usVals_len, List.length_set]; omega, .inr ⟨gz, cap, _, by rw [List.length_set], hb, h1, by rw [List.length_set]; exact hn, hm, by simpa using hsz, ?_⟩⟩
    rw [List.length_set, ← usVals_set1 T.us i x 1 hx, ← ht]
    simp only [Array.toList_setIfInBounds, List.take_set]
theorem slotsOk_app {l : List Int} {y : Nat} (h : slotsOk l) (hy : (y : Int) < 2) : slotsOk (l ++ [(y : Int)]) := by
  intro x hx
  rcases List.mem_append.1 hx with hx | hx
  · exact h x hx
  · simp at hx
    subst hx
    omega
def preOk (l : List Us) : Prop := ∀ u ∈ l, (u.s = 0 ∨ u.s = 2) ∧ 0 ≤ u.t ∧ u.t ≤ 2147483647
theorem preOk_app {l : List Us} {u : Us} (h : preOk l) (hu : (u.s = 0 ∨ u.s = 2) ∧ 0 ≤ u.t ∧ u.t ≤ 2147483647) : preOk (l ++ [u]) := by
  intro x hx
  rcases List.mem_append.1 hx with hx | hx
  · exact h x hx
  · simp at hx
    subst hx
    exact hu
theorem preOk_set {l : List Us} {i : Nat} {x : Us} (h : preOk l) (hx : l[i]? = some x) : usesOk (i : Int) (l.set i ⟨1, x.t⟩) := by
  intro j u hu
  by_cases hij : i = j
  · subst hij
    rw [List.getElem?_set_self (List.getElem?_eq_some_iff.1 hx).1] at hu
    injection hu with hu
    subst hu
    have := (h x (List.mem_of_getElem? hx)).2
    exact ⟨by dsimp only; omega, this, by simp⟩
  · rw [List.getElem?_set_ne hij] at hu
    have h1 := h u (List.mem_of_getElem? hu)
    refine ⟨by omega, h1.2, ?_⟩
    constructor
    · intro e
      omega
    · intro e
      omega
theorem chold2 {w0 W W' : World} {q : Nat} {n z : Int} {S S' : List Nat} (h : Kept S w0 W ∧ W.cell? ⟨q, 1, none⟩ = some (.int .i64 n) ∧ W.cell? ⟨q, 2, none⟩ = some (.int .i64 z)) (hk : Kept S' W W') (hS : ∀ i ∈ S', i ∈ S) (hq : q ∉ S') :
    Kept S w0 W' ∧ W'.cell? ⟨q, 1, none⟩ = some (.int .i64 n) ∧ W'.cell? ⟨q, 2, none⟩ = some (.int .i64 z) :=
  ⟨h.1.trans hk (fun i hi => .inl (hS i hi)), hk.cell h.2.1 hq, hk.cell h.2.2 hq⟩

set_option maxRecDepth 100000 in
set_option maxHeartbeats 4000000 in
theorem made_any (x y z : Int) (N : Option Addr) (l : List Int) (n c : Nat) (op : Int) (w : World) (hv : Vals w [] N (l.map I)) (hl : l.length = n) :
    Calls Try.prog 19 #[.agg #[.int .i64 x, .int .i64 y, .int .i64 z], .slice N n c, .int .i64 op] w fun e w' => ∃ R X, e = .returned (R.val X) ∧ Good (dvOf x y z) R ∧ X.small ∧ (∀ S : List Nat, (∀ i ∈ S, i < w.heap.size) → RgIn w' S X R) ∧ Kept [] w w' := by
  have hD := dvOf_ok x y z
  obtain ⟨D, hd⟩ : ∃ D, dvOf x y z = D := ⟨_, rfl⟩
  have HDD := hide hd
  rw [hd] at hD ⊢
  clear hd
  have hbd := hD.bd
  have hy1 : 1 ≤ D.y := hbd.2.2.1
  have hy5 : D.y ≤ 5 := hbd.2.2.2.1
  have hn32 := hD.hn.2
  have hn8 := hD.hn.1
  have hz24 := hD.hz.1
  have hz64 := hD.hz.2
  have HV := hide hv
  have HL := hide hl
  have HD := hide hD
  obtain ⟨wa, hwa⟩ : ∃ wa, w.alloc (.cells #[.int .i64 x, .int .i64 y, .int .i64 z] 22) = wa := ⟨_, rfl⟩
  have hka : Kept [] w wa := by rw [← hwa]; exact (Kept.refl [] w).alloc _
  have hba : Blk wa w.heap.size 22 #[.int .i64 x, .int .i64 y, .int .i64 z] := by rw [← hwa]; exact Blk.new w _ _
  obtain ⟨q, hq⟩ : ∃ q, w.heap.size = q := ⟨_, rfl⟩
  rw [hq] at hba
  obtain ⟨g, hg⟩ : ∃ g, q + 1 = g := ⟨_, rfl⟩
  have hsa : wa.heap.size = g := by rw [← hwa]; simp; omega
  obtain ⟨w0, hw0⟩ : ∃ w0, wa.alloc (.cells (Rg.zero.cells Sl.zero) 28) = w0 := ⟨_, rfl⟩
  have hk0 : Kept [] wa w0 := by rw [← hw0]; exact (Kept.refl [] wa).alloc _
  have hb0 : Blk w0 wa.heap.size 28 (Rg.zero.cells Sl.zero) := by rw [← hw0]; exact Blk.new wa _ _
  rw [hsa] at hb0
  have hlg := hb0.lt
  have HWG : Hid (w.heap.size ≤ g) := hide (by omega)
  have HB0 := hide hb0
  have HA0 := hide (hk0.blk hba (by simp))
  have HK0 := hide (hka.trans hk0 (by simp))
  have a0 : w0.cell? ⟨q, 0, none⟩ = some (.int .i64 x) := HA0.out.cell 0
  have a1 : w0.cell? ⟨q, 1, none⟩ = some (.int .i64 y) := HA0.out.cell 1
  have a2 : w0.cell? ⟨q, 2, none⟩ = some (.int .i64 z) := HA0.out.cell 2
  simp only [Rg.cells, Rg.zero, Sl.zero] at hw0
  clear hka hba hk0 hb0 hD hbd hv hl
  go_enter Try.func19, Try.ntmps19
  go_wp2_with fail
  refine (config_dv x y z _).mono ?_
  rintro e w1 ⟨rfl, hk⟩
  rw [HDD.out]
  obtain ⟨w2, hw2⟩ : ∃ w2, w1.alloc (.cells #[.int .i64 D.b, .int .i64 (D.n : Int), .int .i64 D.z] 31) = w2 := ⟨_, rfl⟩
  have hk2 : Kept [] w1 w2 := by rw [← hw2]; exact (Kept.refl [] w1).alloc _
  have hb2 : Blk w2 w1.heap.size 31 #[.int .i64 D.b, .int .i64 (D.n : Int), .int .i64 D.z] := by rw [← hw2]; exact Blk.new w1 _ _
  obtain ⟨cq, hcq⟩ : ∃ cq, w1.heap.size = cq := ⟨_, rfl⟩
  rw [hcq] at hb2
  obtain ⟨rb, hrb⟩ : ∃ rb, cq + 1 = rb := ⟨_, rfl⟩
  have hs2 : w2.heap.size = rb := by rw [← hw2]; simp; omega
  obtain ⟨w3, hw3⟩ : ∃ w3, w2.alloc (.cells #[.slice N n c, .int .i64 0] 98) = w3 := ⟨_, rfl⟩
  have hk3 : Kept [] w2 w3 := by rw [← hw3]; exact (Kept.refl [] w2).alloc _
  have hb3 : Blk w3 w2.heap.size 98 #[.slice N n c, .int .i64 ((0 : Nat) : Int)] := by rw [← hw3]; exact Blk.new w2 _ _
  rw [hs2] at hb3
  have hsz := hk.size
  have hgq : g < cq := by omega
  have hqr : cq < rb := by omega
  have hwrb : w.heap.size ≤ rb := by have := HWG.out; omega
  have hkk := hk2.trans hk3 (by simp)
  have HB3 := hide (hkk.blk (hk.blk HB0.out (by simp)) (by simp))
  have HQ3 := hide (hk3.blk hb2 (by simp))
  have HR3 := hide hb3
  have HK3 := hide ((HK0.out.trans hk (by simp)).trans hkk (by simp))
  clear hk hk2 hk3 hkk hb2 hb3 a0 a1 a2 HB0 HK0 HA0 hwa hw0 hsz hlg
  go_wp2_with fail
  refine (next_rb rb N l n c 0 2147483647 w _ HV.out HL.out HK3.out hwrb HR3.out (by omega) (by omega) (by omega)).mono ?_
  rintro e v1 ⟨y11, rfl, hy11, hr, hk⟩
  have HRv1 := hide hr
  have HBv1 := hide (hk.blk HB3.out (by simp; omega))
  have HQv1 := hide (hk.blk HQ3.out (by simp; omega))
  have HKv1 := hide (HK3.out.trans hk (by simp; exact hwrb))
  have hszv1 := hk.size
  clear hr hk HR3 HB3 HQ3 HK3
  go_wp2_with fail
  refine (next_rb rb N l n c 1 2147483647 w _ HV.out HL.out HKv1.out hwrb HRv1.out (by omega) (by omega) (by omega)).mono ?_
  rintro e v2 ⟨y12, rfl, hy12, hr, hk⟩
  have HRv2 := hide hr
  have HBv2 := hide (hk.blk HBv1.out (by simp; omega))
  have HQv2 := hide (hk.blk HQv1.out (by simp; omega))
  have HKv2 := hide (HKv1.out.trans hk (by simp; exact hwrb))
  have hszv2 := hk.size
  clear hr hk HRv1 HBv1 HQv1 HKv1
  go_wp2_with fail
  refine (next_rb rb N l n c 2 2 w _ HV.out HL.out HKv2.out hwrb HRv2.out (by omega) (by omega) (by omega)).mono ?_
  rintro e v3 ⟨y13, rfl, hy13, hr, hk⟩
  have HRv3 := hide hr
  have HBv3 := hide (hk.blk HBv2.out (by simp; omega))
  have HQv3 := hide (hk.blk HQv2.out (by simp; omega))
  have HKv3 := hide (HKv2.out.trans hk (by simp; exact hwrb))
  have hszv3 := hk.size
  clear hr hk HRv2 HBv2 HQv2 HKv2
  go_wp2_with fail
  refine (next_rb rb N l n c 3 2147483648 w _ HV.out HL.out HKv3.out hwrb HRv3.out (by omega) (by omega) (by omega)).mono ?_
  rintro e v4 ⟨y14, rfl, hy14, hr, hk⟩
  have HRv4 := hide hr
  have HBv4 := hide (hk.blk HBv3.out (by simp; omega))
  have HQv4 := hide (hk.blk HQv3.out (by simp; omega))
  have HKv4 := hide (HKv3.out.trans hk (by simp; exact hwrb))
  have hszv4 := hk.size
  clear hr hk HRv3 HBv3 HQv3 HKv3
  go_wp2_with fail
  refine (next_rb rb N l n c 4 2147483648 w _ HV.out HL.out HKv4.out hwrb HRv4.out (by omega) (by omega) (by omega)).mono ?_
  rintro e v5 ⟨y15, rfl, hy15, hr, hk⟩
  have HRv5 := hide hr
  have HBv5 := hide (hk.blk HBv4.out (by simp; omega))
  have HQv5 := hide (hk.blk HQv4.out (by simp; omega))
  have HKv5 := hide (HKv4.out.trans hk (by simp; exact hwrb))
  have hszv5 := hk.size
  clear hr hk HRv4 HBv4 HQv4 HKv4
  obtain ⟨s, hs⟩ : ∃ s, v5.heap.size = s := ⟨_, rfl⟩
  obtain ⟨w4, hw4⟩ : ∃ w4, v5.alloc (.cells #[.int .i64 (1 + (y11 : Int)), .int .i64 (1 + (y12 : Int)), .int .i64 (1 + (y13 : Int)), .int .i64 (y14 : Int), .int .i64 (y15 : Int), .int .i64 0, .int .i64 0, .int .i64 0, .int .i64 0, .int .i64 0, .int .i64 0, .slice none 0 0, .slice none 0 0, .slice none 0 0] 28) = w4 := ⟨_, rfl⟩
  have hk4 : Kept [] v5 w4 := by rw [← hw4]; exact (Kept.refl [] v5).alloc _
  have hb4 : Blk w4 v5.heap.size 28 #[.int .i64 (1 + (y11 : Int)), .int .i64 (1 + (y12 : Int)), .int .i64 (1 + (y13 : Int)), .int .i64 (y14 : Int), .int .i64 (y15 : Int), .int .i64 0, .int .i64 0, .int .i64 0, .int .i64 0, .int .i64 0, .int .i64 0, .slice none 0 0, .slice none 0 0, .slice none 0 0] := by rw [← hw4]; exact Blk.new v5 _ _
  rw [hs] at hb4
  have hrs : rb < s := by have := HRv5.out.lt; omega
  have HR4 := hide (hk4.blk HRv5.out (by simp))
  have HB4 := hide (hk4.blk HBv5.out (by simp))
  have HQ4 := hide (hk4.blk HQv5.out (by simp))
  have HK4 := hide (HKv5.out.trans hk4 (by simp))
  have HS4 := hide hb4
  have HW4 := hide hw4
  clear hw4 hw2 hw3 hk4 hb4 HRv5 HBv5 HQv5 HKv5 hszv1 hszv2 hszv3 hszv4 hszv5
  go_wp2_with fail
  rw [HW4.out]
  clear HW4
  refine (next_rb rb N l n c 5 ((y15 : Int) + 1) w _ HV.out HL.out HK4.out hwrb HR4.out (by omega) (by omega) (by omega)).mono ?_
  rintro e w5 ⟨y16, rfl, hy16, hr, hk⟩
  have hs5 := hk.blk HS4.out (by simp; omega)
  have D5 : w5.cell? ⟨s, 5, none⟩ = some (.int .i64 0) := hs5.cell 5
  have G5 := hs5.frozen 5
  have hks : Kept [s] w5 (w5.setCell ⟨s, 5, none⟩ (.int .i64 (y16 : Int))) := (Kept.refl [s] w5).set_ (b := s) (.inl (by simp)) 5 _
  have HS5 : Hid (Blk (w5.setCell ⟨s, 5, none⟩ (.int .i64 (y16 : Int))) s 28 #[.int .i64 (1 + (y11 : Int)), .int .i64 (1 + (y12 : Int)), .int .i64 (1 + (y13 : Int)), .int .i64 (y14 : Int), .int .i64 (y15 : Int), .int .i64 (y16 : Int), .int .i64 0, .int .i64 0, .int .i64 0, .int .i64 0, .int .i64 0, .slice none 0 0, .slice none 0 0, .slice none 0 0]) := hide (by have h := hs5.set_ 5 (.int .i64 (y16 : Int)); simpa using h)
  have hws : w.heap.size ≤ s := by omega
  have HR5 := hide (hks.blk hr (by simp; omega))
  have HB5 := hide (hks.blk (hk.blk HB4.out (by simp; omega)) (by simp; omega))
  have HQ5 := hide (hks.blk (hk.blk HQ4.out (by simp; omega)) (by simp; omega))
  have HK5 := hide ((HK4.out.trans hk (by simp; exact hwrb)).trans hks (by simp; exact hws))
  clear hr hk hs5 hks HR4 HB4 HQ4 HK4 HS4
  go_wp2_with fail
  clear D5 G5
  generalize w5.setCell ⟨s, 5, none⟩ (.int .i64 (y16 : Int)) = W5 at *
  have HST := hide (show Kept [rb, s] W5 W5 ∧ W5.cell? ⟨cq, 1, none⟩ = some (.int .i64 (D.n : Int)) ∧ W5.cell? ⟨cq, 2, none⟩ = some (.int .i64 D.z) from ⟨Kept.refl _ _, HQ5.out.cell 1, HQ5.out.cell 2⟩)
  have hcr : cq ∉ [rb] := by simp; omega
  have hcs : cq ∉ [s] := by simp; omega
  refine wp_region_noPanic ?_
  refine wp_region_held_drew (S := fun W => Kept [rb, s] W5 W ∧ W.cell? ⟨cq, 1, none⟩ = some (.int .i64 (D.n : Int)) ∧ W.cell? ⟨cq, 2, none⟩ = some (.int .i64 D.z)) (by kernel_rfl) (by exact ⟨HST.out.1.drew, HST.out.2⟩) (fun hHeld => ?_)
  refine wpAnyH_take (i := 0) (oi := ⟨some 37, _, _, _, _, _⟩) (v := ?v5001) rfl (by kernel_rfl) (by kernel_rfl) (by kernel_rfl) (fun _ _ _ h => h) (Or.inl ⟨by rfl, ?hy5001⟩) (by assumption) ?rest5001
  case hy5001 => (intro W hSw; (try dsimp only at hSw); go_simp; try with_reducible rfl)
  try simp only [Act.put, List.setIfInBounds_toArray, List.set_cons_zero, List.set_cons_succ]
  refine wpAnyH_take (i := 1) (oi := ⟨some 38, _, _, _, _, _⟩) (v := ?v5002) rfl (by kernel_rfl) (by kernel_rfl) (by kernel_rfl) (fun _ _ _ h => h) (Or.inl ⟨by rfl, ?hy5002⟩) (by assumption) ?rest5002
  case hy5002 => (intro W hSw; (try dsimp only at hSw); go_simp; try with_reducible rfl)
  try simp only [Act.put, List.setIfInBounds_toArray, List.set_cons_zero, List.set_cons_succ]
  refine wpAnyH_take (i := 2) (oi := ⟨some 39, _, _, _, _, _⟩) (v := ?v5003) rfl (by kernel_rfl) (by kernel_rfl) (by kernel_rfl) (fun _ _ _ h => h) (Or.inl ⟨by rfl, ?hy5003⟩) (by assumption) ?rest5003
  case hy5003 => (intro W hSw; (try dsimp only at hSw); go_simp; try with_reducible rfl)
  try simp only [Act.put, List.setIfInBounds_toArray, List.set_cons_zero, List.set_cons_succ]
  refine wpAnyH_take (i := 4) (oi := ⟨some 41, _, _, _, _, _⟩) (v := ?v5004) rfl (by kernel_rfl) (by kernel_rfl) (by kernel_rfl) (fun _ _ _ h => h) (Or.inl ⟨by rfl, ?hy5004⟩) (by assumption) ?rest5004
  case hy5004 => (intro W hSw; (try dsimp only at hSw); go_simp; try with_reducible rfl)
  try simp only [Act.put, List.setIfInBounds_toArray, List.set_cons_zero, List.set_cons_succ]
  refine wpAnyH_take (i := 5) (oi := ⟨some 42, _, _, _, _, _⟩) (v := ?v5005) rfl (by kernel_rfl) (by kernel_rfl) (by kernel_rfl) (fun _ _ _ h => h) (Or.inl ⟨by rfl, ?hy5005⟩) (by assumption) ?rest5005
  case hy5005 => (intro W hSw; (try dsimp only at hSw); go_simp; try with_reducible rfl)
  try simp only [Act.put, List.setIfInBounds_toArray, List.set_cons_zero, List.set_cons_succ]
  refine wpAnyH_take (i := 6) (oi := ⟨some 43, _, _, _, _, _⟩) (v := ?v5006) rfl (by kernel_rfl) (by kernel_rfl) (by kernel_rfl) (fun _ _ _ h => h) (Or.inl ⟨by rfl, ?hy5006⟩) (by assumption) ?rest5006
  case hy5006 => (intro W hSw; (try dsimp only at hSw); go_simp; try with_reducible rfl)
  try simp only [Act.put, List.setIfInBounds_toArray, List.set_cons_zero, List.set_cons_succ]
  refine wpAnyH_take (i := 8) (oi := ⟨some 45, _, _, _, _, _⟩) (v := ?v5007) rfl (by kernel_rfl) (by kernel_rfl) (by kernel_rfl) (fun _ _ _ h => h) (Or.inl ⟨by rfl, ?hy5007⟩) (by assumption) ?rest5007
  case hy5007 => (intro W hSw; (try dsimp only at hSw); go_simp; try with_reducible rfl)
  try simp only [Act.put, List.setIfInBounds_toArray, List.set_cons_zero, List.set_cons_succ]
  refine wpAnyH_take (i := 11) (oi := ⟨some 48, _, _, _, _, _⟩) (v := ?v5008) rfl (by kernel_rfl) (by kernel_rfl) (by kernel_rfl) (fun _ _ _ h => h) (Or.inl ⟨by rfl, ?hy5008⟩) (by assumption) ?rest5008
  case hy5008 => (intro W hSw; (try dsimp only at hSw); go_simp; try with_reducible rfl)
  try simp only [Act.put, List.setIfInBounds_toArray, List.set_cons_zero, List.set_cons_succ]
  refine wpAnyH_take (i := 13) (oi := ⟨some 50, _, _, _, _, _⟩) (v := ?v5009) rfl (by kernel_rfl) (by kernel_rfl) (by kernel_rfl) (fun _ _ _ h => h) (Or.inl ⟨by rfl, ?hy5009⟩) (by assumption) ?rest5009
  case hy5009 => (intro W hSw; (try dsimp only at hSw); go_simp; try with_reducible rfl)
  try simp only [Act.put, List.setIfInBounds_toArray, List.set_cons_zero, List.set_cons_succ]
  refine held_one (i := 3) (o := ⟨some 40, _, _, _, _, _⟩) rfl (by kernel_rfl) (by rfl) (fun K hK => ?_)
  go_simp
  refine (base.round_ex op (D.n : Int) _ (by omega) (by omega)).mono ?_
  rintro e z0 ⟨y17, hy17, rfl, rfl⟩
  refine hK.out _ _ (by exact hHeld) (fun hHeld => ?_)
  clear hK K
  try simp only [Act.put, List.setIfInBounds_toArray, List.set_cons_zero, List.set_cons_succ]
  refine held_one (i := 7) (o := ⟨some 44, _, _, _, _, _⟩) rfl (by kernel_rfl) (by rfl) (fun K hK => ?_)
  go_simp
  refine (next_rb rb N l n c 6 D.z w _ HV.out HL.out (HK5.out.drewN 1) hwrb (HR5.out.drewN 1) (by omega) (by omega) (by omega)).mono ?_
  rintro e z1 ⟨y18, rfl, hy18, rz1, kz1⟩
  have K1 := hide ((HK5.out.drewN 1).trans kz1 (by simp; exact hwrb))
  refine hK.out _ _ (by exact chold2 hHeld kz1 (by simp) hcr) (fun hHeld => ?_)
  clear hK K
  try simp only [Act.put, List.setIfInBounds_toArray, List.set_cons_zero, List.set_cons_succ]
  refine held_one (i := 9) (o := ⟨some 46, _, _, _, _, _⟩) rfl (by kernel_rfl) (by rfl) (fun K hK => ?_)
  go_simp
  refine (next_rb rb N l n c 7 2147483647 w _ HV.out HL.out (K1.out) hwrb (rz1) (by omega) (by omega) (by omega)).mono ?_
  rintro e z2 ⟨y19, rfl, hy19, rz2, kz2⟩
  have K2 := hide (K1.out.trans kz2 (by simp; exact hwrb))
  have G19 : IntKind.i64.wrap (1 + (y19 : Int)) = 1 + y19 := IntWalk.i64_in _ (by omega)
  refine hK.out _ _ (by exact chold2 hHeld kz2 (by simp) hcr) (fun hHeld => ?_)
  clear hK K
  try simp only [Act.put, List.setIfInBounds_toArray, List.set_cons_zero, List.set_cons_succ]
  refine wpAnyH_take (i := 10) (oi := ⟨some 47, _, _, _, _, _⟩) (v := ?v5010) rfl (by kernel_rfl) (by kernel_rfl) (by kernel_rfl) (fun _ _ _ h => h) (Or.inl ⟨by rfl, ?hy5010⟩) (by assumption) ?rest5010
  case hy5010 => (intro W hSw; (try dsimp only at hSw); go_simp; try with_reducible rfl)
  try simp only [Act.put, List.setIfInBounds_toArray, List.set_cons_zero, List.set_cons_succ]
  refine held_one (i := 12) (o := ⟨some 49, _, _, _, _, _⟩) rfl (by kernel_rfl) (by rfl) (fun K hK => ?_)
  go_simp
  refine (next_rb rb N l n c 8 4294967296 w _ HV.out HL.out (K2.out) hwrb (rz2) (by omega) (by omega) (by omega)).mono ?_
  rintro e z3 ⟨y20, rfl, hy20, rz3, kz3⟩
  have K3 := hide (K2.out.trans kz3 (by simp; exact hwrb))
  refine hK.out _ _ (by exact chold2 hHeld kz3 (by simp) hcr) (fun hHeld => ?_)
  clear hK K
  try simp only [Act.put, List.setIfInBounds_toArray, List.set_cons_zero, List.set_cons_succ]
  refine held_one (i := 14) (o := ⟨some 51, _, _, _, _, _⟩) rfl (by kernel_rfl) (by rfl) (fun K hK => ?_)
  go_simp
  refine (next_rb rb N l n c 9 2147483647 w _ HV.out HL.out (K3.out) hwrb (rz3) (by omega) (by omega) (by omega)).mono ?_
  rintro e z4 ⟨y21, rfl, hy21, rz4, kz4⟩
  have K4 := hide (K3.out.trans kz4 (by simp; exact hwrb))
  have G21 : IntKind.i64.wrap (1 + (y21 : Int)) = 1 + y21 := IntWalk.i64_in _ (by omega)
  refine hK.out _ _ (by exact chold2 hHeld kz4 (by simp) hcr) (fun hHeld => ?_)
  clear hK K
  try simp only [Act.put, List.setIfInBounds_toArray, List.set_cons_zero, List.set_cons_succ]
  refine wpAnyH_take (i := 15) (oi := ⟨some 52, _, _, _, _, _⟩) (v := ?v5011) rfl (by kernel_rfl) (by kernel_rfl) (by kernel_rfl) (fun _ _ _ h => h) (Or.inl ⟨by rfl, ?hy5011⟩) (by assumption) ?rest5011
  case hy5011 => (intro W hSw; (try dsimp only at hSw); go_simp; try with_reducible rfl)
  try simp only [Act.put, List.setIfInBounds_toArray, List.set_cons_zero, List.set_cons_succ]
  refine wpAnyH_take (i := 16) (oi := ⟨some 53, _, _, _, _, _⟩) (v := ?v5012) rfl (by kernel_rfl) (by kernel_rfl) (by kernel_rfl) (fun _ _ _ h => h) (Or.inl ⟨by rfl, ?hy5012⟩) (by assumption) ?rest5012
  case hy5012 => (intro W hSw; (try dsimp only at hSw); go_simp; try with_reducible rfl)
  try simp only [Act.put, List.setIfInBounds_toArray, List.set_cons_zero, List.set_cons_succ]
  refine wpAnyH_take (i := 17) (oi := ⟨some 54, _, _, _, _, _⟩) (v := ?v5013) rfl (by kernel_rfl) (by kernel_rfl) (by kernel_rfl) (fun _ _ _ h => h) (Or.inl ⟨by rfl, ?hy5013⟩) (by assumption) ?rest5013
  case hy5013 => (intro W hSw; (try dsimp only at hSw); go_simp; try with_reducible rfl)
  try simp only [Act.put, List.setIfInBounds_toArray, List.set_cons_zero, List.set_cons_succ]
  refine held_one (i := 18) (o := ⟨none, _, _, _, _, _⟩) rfl (by kernel_rfl) (by rfl) (fun K hK => ?_)
  have hs9 := kz4.blk (kz3.blk (kz2.blk (kz1.blk (HS5.out.drewN 1) (by simp; omega)) (by simp; omega)) (by simp; omega)) (by simp; omega)
  have D6 : z4.cell? ⟨s, 6, none⟩ = some (.int .i64 0) := hs9.cell 6
  have D7 : z4.cell? ⟨s, 7, none⟩ = some (.int .i64 0) := hs9.cell 7
  have D8 : z4.cell? ⟨s, 8, none⟩ = some (.int .i64 0) := hs9.cell 8
  have D9 : z4.cell? ⟨s, 9, none⟩ = some (.int .i64 0) := hs9.cell 9
  have D10 : z4.cell? ⟨s, 10, none⟩ = some (.int .i64 0) := hs9.cell 10
  have G6 := hs9.frozen 6
  have G7 := hs9.frozen 7
  have G8 := hs9.frozen 8
  have G9 := hs9.frozen 9
  have G10 := hs9.frozen 10
  go_simp
  have hks : Kept [s] z4 (((((z4.setCell ⟨s, 6, none⟩ (.int .i64 (y17 : Int))).setCell ⟨s, 7, none⟩ (.int .i64 (y18 : Int))).setCell ⟨s, 8, none⟩ (.int .i64 (1 + (y19 : Int)))).setCell ⟨s, 9, none⟩ (.int .i64 (y20 : Int))).setCell ⟨s, 10, none⟩ (.int .i64 (1 + (y21 : Int)))) := (((((Kept.refl [s] z4).set_ (b := s) (.inl (by simp)) 6 _).set_ (b := s) (.inl (by simp)) 7 _).set_ (b := s) (.inl (by simp)) 8 _).set_ (b := s) (.inl (by simp)) 9 _).set_ (b := s) (.inl (by simp)) 10 _
  have hS9 : Blk (((((z4.setCell ⟨s, 6, none⟩ (.int .i64 (y17 : Int))).setCell ⟨s, 7, none⟩ (.int .i64 (y18 : Int))).setCell ⟨s, 8, none⟩ (.int .i64 (1 + (y19 : Int)))).setCell ⟨s, 9, none⟩ (.int .i64 (y20 : Int))).setCell ⟨s, 10, none⟩ (.int .i64 (1 + (y21 : Int)))) s 28 #[.int .i64 (1 + (y11 : Int)), .int .i64 (1 + (y12 : Int)), .int .i64 (1 + (y13 : Int)), .int .i64 (y14 : Int), .int .i64 (y15 : Int), .int .i64 (y16 : Int), .int .i64 (y17 : Int), .int .i64 (y18 : Int), .int .i64 (1 + (y19 : Int)), .int .i64 (y20 : Int), .int .i64 (1 + (y21 : Int)), .slice none 0 0, .slice none 0 0, .slice none 0 0] := by have h := ((((hs9.set_ 6 (.int .i64 (y17 : Int))).set_ 7 (.int .i64 (y18 : Int))).set_ 8 (.int .i64 (1 + (y19 : Int)))).set_ 9 (.int .i64 (y20 : Int))).set_ 10 (.int .i64 (1 + (y21 : Int))); simpa using h
  generalize (((((z4.setCell ⟨s, 6, none⟩ (.int .i64 (y17 : Int))).setCell ⟨s, 7, none⟩ (.int .i64 (y18 : Int))).setCell ⟨s, 8, none⟩ (.int .i64 (1 + (y19 : Int)))).setCell ⟨s, 9, none⟩ (.int .i64 (y20 : Int))).setCell ⟨s, 10, none⟩ (.int .i64 (1 + (y21 : Int)))) = W6 at hks hS9 ⊢
  refine hK.out _ _ (by exact chold2 hHeld hks (by simp) hcs) (fun hHeld => ?_)
  clear hK K
  try simp only [Act.put, List.setIfInBounds_toArray, List.set_cons_zero, List.set_cons_succ]
  refine wpAnyH_done (by kernel_rfl) ?_ _
  refine NoPanic.normal ?_
  have HRb := hide (hks.blk rz4 (by simp; omega))
  have HK6 := hide (K4.out.trans hks (by simp; exact hws))
  have hkA := hHeld.1
  have HB6 := hide (hkA.blk HB5.out (by simp; omega))
  have HQ6 := hide (hkA.blk HQ5.out (by simp; omega))
  obtain ⟨T, hT⟩ : ∃ T, (⟨1 + (y11 : Int), 1 + (y12 : Int), 1 + (y13 : Int), (y14 : Int), (y15 : Int), (y16 : Int), (y17 : Int), (y18 : Int), 1 + (y19 : Int), (y20 : Int), 1 + (y21 : Int), [], [], []⟩ : Rg) = T := ⟨_, rfl⟩
  have hgood : Good D { T with bs := List.replicate D.y 0, ov := List.replicate D.y 0, us := (List.replicate D.n Us.zero).set y17 ⟨1, 0⟩ } := by
    rw [← hT]
    refine ⟨?_, ?_, ?_, ?_, ?_, ?_, ?_, ?_, ?_, ?_, ?_, ?_, ?_, ?_, ?_, ?_, ?_⟩ <;> dsimp only <;> try omega
    · intro a ha; have := List.eq_of_mem_replicate ha; omega
    · simp
    · intro a ha; have := List.eq_of_mem_replicate ha; omega
    · simp
    · simp
    · exact preOk_set (l := List.replicate D.n Us.zero) (x := Us.zero) (fun u hu => by have := List.eq_of_mem_replicate hu; subst this; exact ⟨.inl rfl, by simp [Us.zero], by simp [Us.zero]⟩) (by rw [List.getElem?_replicate, if_pos (by omega)])
  have HGOOD := hide hgood
  have HTs : Hid (T.s = (y17 : Int)) := hide (by rw [← hT])
  have HTu : Hid (T.us = [] ∧ T.bs = [] ∧ T.ov = []) := hide (by rw [← hT]; exact ⟨rfl, rfl, rfl⟩)
  obtain ⟨Bz, hBz⟩ : ∃ Bz, W6.heap.size = Bz := ⟨_, rfl⟩
  have hsB : s < Bz := by have := hS9.lt; omega
  have hgB : g < Bz := by omega
  have hrB : rb < Bz := by omega
  have hcB : cq < Bz := by omega
  have hwB : w.heap.size ≤ Bz := by omega
  have HM6 : Hid (MR W6 w g s Bz { T with bs := [], ov := [] } (.slice none 0 0) (.slice none 0 0) (.slice none 0 0)) := hide ⟨by rw [← hT]; exact hS9, World.ownsRow_nil _ _ _ _, World.ownsRow_nil _ _ _ _, by rw [← hT]; exact World.ownsRow_nil _ _ _ _, by simp [Value.ownBlock], HB6.out, HK6.out, Nat.le_of_eq hBz.symm⟩
  have HPS : Hid (∀ i ∈ [rb], i < Bz ∧ i ≠ g ∧ i ≠ s ∧ w.heap.size ≤ i) := hide (by simp; omega)
  obtain ⟨Y, hY⟩ : ∃ Y, D.y = Y := ⟨_, rfl⟩
  have HY := hide hY
  rw [hY] at hy1 hy5
  clear hT hgood hBz rz1 rz2 rz3 rz4 kz1 kz2 kz3 kz4 K1 K2 K3 K4 hks hS9 hs9 hHeld hkA HB5 HQ5 HS5 HR5 HK5 HST D6 D7 D8 D9 D10 G6 G7 G8 G9 G10 hY
  go_wp2
  go_loopw [10] (fun i wr => ∃ (j : Nat) (bs ov : List Int) (v u : Value), j ≤ Y ∧ i = .int .i64 j ∧ Hid (MR wr w g s Bz { T with bs := bs, ov := ov } v u (.slice none 0 0)) ∧ Hid (bs.length = j ∧ ov.length = j ∧ slotsOk bs ∧ slotsOk ov) ∧ Hid (Blk wr rb 98 #[.slice N n c, .int .i64 ((10 + 2 * j : Nat) : Int)]) ∧ Hid (Blk wr cq 31 #[.int .i64 D.b, .int .i64 (D.n : Int), .int .i64 D.z])) (fun i wr => Y - (intOf i).toNat)
  case atStart => exact ⟨0, [], [], _, _, by omega, rfl, HM6, hide ⟨rfl, rfl, by simp [slotsOk], by simp [slotsOk]⟩, HRb, HQ6⟩
  case round =>
    obtain ⟨j, bs, ov, v, u, hj, rfl, HM, HS, HR, HQ⟩ := hrel
    clear HM6 HRb HQ6
    obtain ⟨d0, d1, d2⟩ : wr.cell? ⟨cq, 0, none⟩ = some (.int .i64 D.b) ∧ wr.cell? ⟨cq, 1, none⟩ = some (.int .i64 (D.n : Int)) ∧ wr.cell? ⟨cq, 2, none⟩ = some (.int .i64 D.z) := ⟨HQ.out.cell 0, HQ.out.cell 1, HQ.out.cell 2⟩
    go_wp2_with fail
    refine (rpag D HD.out _).mono ?_
    rintro e wp ⟨rfl, hk⟩
    rw [HY.out]
    have HM1 := hide (HM.out.kept_ (S := []) (by simp) hk)
    have HR1 := hide (hk.blk HR.out (by simp))
    have HQ1 := hide (hk.blk HQ.out (by simp))
    clear hk HM HR HQ d0 d1 d2
    by_cases hlt : j < Y
    · have hlti : (j : Int) < (Y : Int) := by omega
      obtain ⟨A2, cc, rfl, _⟩ := own_read HM1.out.bs
      obtain ⟨hb1, hb2, hb3, hb4⟩ := HS.out
      have HSb := hide hb3
      have HSo := hide hb4
      dsimp only at HM1
      rw [hb1] at HM1
      have c11 : (World.drew wp).cell? ⟨s, 11, none⟩ = some (.slice A2 j cc) := HM1.out.c.1
      have HBL := hide hb1
      have HOL := hide hb2
      clear hb1 hb2 hb3 hb4
      go_wp2_with fail
      refine wp_region_noPanic ?_
      refine wp_region_held_drew (S := fun _ => True) (by kernel_rfl) (by trivial) (fun hHeld => ?_)
      refine wpAnyH_take (i := 0) (oi := ⟨some 61, _, _, _, _, _⟩) (v := ?v5014) rfl (by kernel_rfl) (by kernel_rfl) (by kernel_rfl) (fun _ _ _ h => h) (Or.inl ⟨by rfl, ?hy5014⟩) (by trivial) ?rest5014
      case hy5014 => (intro W hSw; go_simp; try with_reducible rfl)
      try simp only [Act.put, List.setIfInBounds_toArray, List.set_cons_zero, List.set_cons_succ]
      refine wpAnyH_take (i := 2) (oi := ⟨some 63, _, _, _, _, _⟩) (v := ?v5015) rfl (by kernel_rfl) (by kernel_rfl) (by kernel_rfl) (fun _ _ _ h => h) (Or.inl ⟨by rfl, ?hy5015⟩) (by trivial) ?rest5015
      case hy5015 => (intro W hSw; go_simp; try with_reducible rfl)
      try simp only [Act.put, List.setIfInBounds_toArray, List.set_cons_zero, List.set_cons_succ]
      refine next_two (i := 1) (j := 3) (o := ⟨some 62, _, _, _, _, _⟩) (o' := ⟨some 64, _, _, _, _, _⟩) (by kernel_rfl) rfl (by rfl) rfl (by rfl) (fun K hK => ?_) (fun K hK => ?_)
      · go_simp
        refine hK _ _ trivial ?_
        clear hK K
        try simp only [Act.put, List.setIfInBounds_toArray, List.set_cons_zero, List.set_cons_succ]
        refine held_one (i := 3) (o := ⟨some 64, _, _, _, _, _⟩) rfl (by kernel_rfl) (by rfl) (fun K hK => ?_)
        go_simp
        refine (next_rb rb N l n c (10 + 2 * j) 2 w _ HV.out HL.out (HM1.out.kept.drewN 1) hwrb (HR1.out.drewN 1) (by omega) (by omega) (by omega)).mono ?_
        rintro e xa ⟨ta, rfl, hta, hra, hka⟩
        have hkda : Kept [rb] wp xa := ((Kept.refl [rb] wp).drewN 1).trans hka (by simp)
        have hMa := HM1.out.kept_ HPS.out hkda
        have cwa := hMa.c.1
        have cxa : (xa.alloc (.cells #[.int .i64 (ta : Int)] 3)).cell? ⟨s, 11, none⟩ = some (.slice A2 j cc) := ((Kept.refl [] xa).alloc _).cell cwa (by simp)
        have hOa : xa.ownsRow Bz 3 1 (.slice A2 j cc) j (bs.map I) := by have h := hMa.bs; dsimp only at h; rw [HBL.out] at h; exact h
        refine hK.out _ _ (by trivial) (fun hHeld => ?_)
        clear hK K
        try simp only [Act.put, List.setIfInBounds_toArray, List.set_cons_zero, List.set_cons_succ]
        refine held_one (i := 4) (o := ⟨some 65, _, _, _, _, _⟩) rfl (by kernel_rfl) (by rfl) (fun K hK => ?_)
        go_simp
        refine hK.out _ _ (by trivial) (fun hHeld => ?_)
        clear hK K
        try simp only [Act.put, List.setIfInBounds_toArray, List.set_cons_zero, List.set_cons_succ]
        refine held_one (i := 5) (o := ⟨some 66, _, _, _, _, _⟩) rfl (by kernel_rfl) (by rfl) (fun K hK => ?_)
        refine wp_append_vals (o := ⟨some 66, _, _, _, _, _⟩) (.tmp 62) (.tmp 65) 25 rfl Bz 3 (.int .i64 0) 1 8 Try.underlying25 base.int_info rfl (by omega) (.slice A2 j cc) j (bs.map I) (by go_simp) (own_keep hOa ((Kept.refl [] xa).alloc _) (by simp)) [] _ 1 1 ([(ta : Int)].map I) (by go_simp) rfl (base.vals_one _ [] _ _ (by simp)) (oneCell_I [(ta : Int)]) (by simp only [maxLen]; omega) (by omega) (by have := hMa.size; simp; omega) ?_
        intro va wa howna hkza hata
        have hiza := own_blk hOa
        have hSa := hkza.blk ((hMa.kept_ (S := []) (by simp) ((Kept.refl [] xa).alloc (.cells #[.int .i64 (ta : Int)] 3))).rec_) (fun hm => by have := (hiza s hm).1; omega)
        have y4a := hSa.cell 11
        have y5a := hSa.frozen 11
        obtain ⟨Aa, ca, rfl, _⟩ := own_read howna
        refine hK.out _ _ (by trivial) (fun hHeld => ?_)
        clear hK K
        try simp only [Act.put, List.setIfInBounds_toArray, List.set_cons_zero, List.set_cons_succ]
        refine wpAnyH_take (i := 6) (oi := ⟨some 67, _, _, _, _, _⟩) (v := ?v5016) rfl (by kernel_rfl) (by kernel_rfl) (by kernel_rfl) (fun _ _ _ h => h) (Or.inl ⟨by rfl, ?hy5016⟩) (by trivial) ?rest5016
        case hy5016 => (intro W hSw; go_simp; try with_reducible rfl)
        try simp only [Act.put, List.setIfInBounds_toArray, List.set_cons_zero, List.set_cons_succ]
        refine held_one (i := 7) (o := ⟨none, _, _, _, _, _⟩) rfl (by kernel_rfl) (by rfl) (fun K hK => ?_)
        go_simp
        refine hK.out _ _ (by trivial) (fun hHeld => ?_)
        clear hK K
        try simp only [Act.put, List.setIfInBounds_toArray, List.set_cons_zero, List.set_cons_succ]
        refine wpAnyH_done (by kernel_rfl) ?_ _
        refine NoPanic.normal ?_
        clear cxa
        have hMX := hMa.app_bs (by omega) hgB hsB hws ((Kept.refl [] xa).alloc (.cells #[.int .i64 (ta : Int)] 3)) (ta : Int) (by dsimp only; rw [HBL.out]; exact howna) hkza hata
        have HM2 : Hid (MR (wa.setCell ⟨s, 11, none⟩ (.slice Aa (j + 1) ca)) w g s Bz { T with bs := bs ++ [(ta : Int)], ov := ov } (.slice Aa (j + 1) ca) u (.slice none 0 0)) := hide hMX
        have hkx : Kept [rb] wp (xa.alloc (.cells #[.int .i64 (ta : Int)] 3)) := hkda.alloc _
        have hks9 : Kept [s] wa (wa.setCell ⟨s, 11, none⟩ (.slice Aa (j + 1) ca)) := (Kept.refl [s] wa).set_ (b := s) (.inl (by simp)) 11 _
        have HR2 : Hid (Blk (wa.setCell ⟨s, 11, none⟩ (.slice Aa (j + 1) ca)) rb 98 #[.slice N n c, .int .i64 ((10 + 2 * j + 1 : Nat) : Int)]) := hide (hks9.blk (hkza.blk (Blk.alloc hra _) (fun hm => by have := (hiza rb hm).1; omega)) (by simp; omega))
        have HQ2 := hide (hks9.blk (hkza.blk (hkx.blk HQ1.out hcr) (fun hm => by have := (hiza cq hm).1; omega)) hcs)
        clear hMX hkx hks9 hkda hMa hOa cwa howna hkza hata hiza hSa y4a y5a hra hka hHeld c11
        generalize wa.setCell ⟨s, 11, none⟩ (.slice Aa (j + 1) ca) = wq at *
        obtain ⟨A6, c6, rfl, _⟩ := own_read HM2.out.ov
        dsimp only at HM2
        rw [HOL.out] at HM2
        have c12 : (World.drew wq).cell? ⟨s, 12, none⟩ = some (.slice A6 j c6) := HM2.out.c.2.1
        go_wp2_with fail
        refine wp_region_noPanic ?_
        refine wp_region_held_drew (S := fun _ => True) (by kernel_rfl) (by trivial) (fun hHeld => ?_)
        refine wpAnyH_take (i := 0) (oi := ⟨some 68, _, _, _, _, _⟩) (v := ?v5017) rfl (by kernel_rfl) (by kernel_rfl) (by kernel_rfl) (fun _ _ _ h => h) (Or.inl ⟨by rfl, ?hy5017⟩) (by trivial) ?rest5017
        case hy5017 => (intro W hSw; go_simp; try with_reducible rfl)
        try simp only [Act.put, List.setIfInBounds_toArray, List.set_cons_zero, List.set_cons_succ]
        refine wpAnyH_take (i := 2) (oi := ⟨some 70, _, _, _, _, _⟩) (v := ?v5018) rfl (by kernel_rfl) (by kernel_rfl) (by kernel_rfl) (fun _ _ _ h => h) (Or.inl ⟨by rfl, ?hy5018⟩) (by trivial) ?rest5018
        case hy5018 => (intro W hSw; go_simp; try with_reducible rfl)
        try simp only [Act.put, List.setIfInBounds_toArray, List.set_cons_zero, List.set_cons_succ]
        refine next_two (i := 1) (j := 3) (o := ⟨some 69, _, _, _, _, _⟩) (o' := ⟨some 71, _, _, _, _, _⟩) (by kernel_rfl) rfl (by rfl) rfl (by rfl) (fun K hK => ?_) (fun K hK => ?_)
        · go_simp
          refine hK _ _ trivial ?_
          clear hK K
          try simp only [Act.put, List.setIfInBounds_toArray, List.set_cons_zero, List.set_cons_succ]
          refine held_one (i := 3) (o := ⟨some 71, _, _, _, _, _⟩) rfl (by kernel_rfl) (by rfl) (fun K hK => ?_)
          go_simp
          refine (next_rb rb N l n c (10 + 2 * j + 1) 2 w _ HV.out HL.out (HM2.out.kept.drewN 1) hwrb (HR2.out.drewN 1) (by omega) (by omega) (by omega)).mono ?_
          rintro e xb ⟨tb, rfl, htb, hrb, hkb⟩
          have hkdb : Kept [rb] wq xb := ((Kept.refl [rb] wq).drewN 1).trans hkb (by simp)
          have hMb := HM2.out.kept_ HPS.out hkdb
          have cwb := hMb.c.2.1
          have cxb : (xb.alloc (.cells #[.int .i64 (tb : Int)] 3)).cell? ⟨s, 12, none⟩ = some (.slice A6 j c6) := ((Kept.refl [] xb).alloc _).cell cwb (by simp)
          have hOb : xb.ownsRow Bz 3 1 (.slice A6 j c6) j (ov.map I) := by have h := hMb.ov; dsimp only at h; rw [HOL.out] at h; exact h
          refine hK.out _ _ (by trivial) (fun hHeld => ?_)
          clear hK K
          try simp only [Act.put, List.setIfInBounds_toArray, List.set_cons_zero, List.set_cons_succ]
          refine held_one (i := 4) (o := ⟨some 72, _, _, _, _, _⟩) rfl (by kernel_rfl) (by rfl) (fun K hK => ?_)
          go_simp
          refine hK.out _ _ (by trivial) (fun hHeld => ?_)
          clear hK K
          try simp only [Act.put, List.setIfInBounds_toArray, List.set_cons_zero, List.set_cons_succ]
          refine held_one (i := 5) (o := ⟨some 73, _, _, _, _, _⟩) rfl (by kernel_rfl) (by rfl) (fun K hK => ?_)
          refine wp_append_vals (o := ⟨some 73, _, _, _, _, _⟩) (.tmp 69) (.tmp 72) 25 rfl Bz 3 (.int .i64 0) 1 8 Try.underlying25 base.int_info rfl (by omega) (.slice A6 j c6) j (ov.map I) (by go_simp) (own_keep hOb ((Kept.refl [] xb).alloc _) (by simp)) [] _ 1 1 ([(tb : Int)].map I) (by go_simp) rfl (base.vals_one _ [] _ _ (by simp)) (oneCell_I [(tb : Int)]) (by simp only [maxLen]; omega) (by omega) (by have := hMb.size; simp; omega) ?_
          intro vb wb hownb hkzb hatb
          have hizb := own_blk hOb
          have hSb := hkzb.blk ((hMb.kept_ (S := []) (by simp) ((Kept.refl [] xb).alloc (.cells #[.int .i64 (tb : Int)] 3))).rec_) (fun hm => by have := (hizb s hm).1; omega)
          have y4b := hSb.cell 12
          have y5b := hSb.frozen 12
          obtain ⟨Ab, cb, rfl, _⟩ := own_read hownb
          refine hK.out _ _ (by trivial) (fun hHeld => ?_)
          clear hK K
          try simp only [Act.put, List.setIfInBounds_toArray, List.set_cons_zero, List.set_cons_succ]
          refine wpAnyH_take (i := 6) (oi := ⟨some 74, _, _, _, _, _⟩) (v := ?v5019) rfl (by kernel_rfl) (by kernel_rfl) (by kernel_rfl) (fun _ _ _ h => h) (Or.inl ⟨by rfl, ?hy5019⟩) (by trivial) ?rest5019
          case hy5019 => (intro W hSw; go_simp; try with_reducible rfl)
          try simp only [Act.put, List.setIfInBounds_toArray, List.set_cons_zero, List.set_cons_succ]
          refine held_one (i := 7) (o := ⟨none, _, _, _, _, _⟩) rfl (by kernel_rfl) (by rfl) (fun K hK => ?_)
          go_simp
          refine hK.out _ _ (by trivial) (fun hHeld => ?_)
          clear hK K
          try simp only [Act.put, List.setIfInBounds_toArray, List.set_cons_zero, List.set_cons_succ]
          refine wpAnyH_done (by kernel_rfl) ?_ _
          refine NoPanic.normal ?_
          clear cxb
          have hMX := hMb.app_ov (by omega) hgB hsB hws ((Kept.refl [] xb).alloc (.cells #[.int .i64 (tb : Int)] 3)) (tb : Int) (by dsimp only; rw [HOL.out]; exact hownb) hkzb hatb
          have HM3 : Hid (MR (wb.setCell ⟨s, 12, none⟩ (.slice Ab (j + 1) cb)) w g s Bz { T with bs := bs ++ [(ta : Int)], ov := ov ++ [(tb : Int)] } (.slice Aa (j + 1) ca) (.slice Ab (j + 1) cb) (.slice none 0 0)) := hide hMX
          have hkx : Kept [rb] wq (xb.alloc (.cells #[.int .i64 (tb : Int)] 3)) := hkdb.alloc _
          have hks9 : Kept [s] wb (wb.setCell ⟨s, 12, none⟩ (.slice Ab (j + 1) cb)) := (Kept.refl [s] wb).set_ (b := s) (.inl (by simp)) 12 _
          have HR3 : Hid (Blk (wb.setCell ⟨s, 12, none⟩ (.slice Ab (j + 1) cb)) rb 98 #[.slice N n c, .int .i64 ((10 + 2 * j + 1 + 1 : Nat) : Int)]) := hide (hks9.blk (hkzb.blk (Blk.alloc hrb _) (fun hm => by have := (hizb rb hm).1; omega)) (by simp; omega))
          have HQ3 := hide (hks9.blk (hkzb.blk (hkx.blk HQ2.out hcr) (fun hm => by have := (hizb cq hm).1; omega)) hcs)
          clear hMX hkx hks9 hkdb hMb hOb cwb hownb hkzb hatb hizb hSb y4b y5b hrb hkb hHeld c12
          have HSN : Hid ((bs ++ [(ta : Int)]).length = j + 1 ∧ (ov ++ [(tb : Int)]).length = j + 1 ∧ slotsOk (bs ++ [(ta : Int)]) ∧ slotsOk (ov ++ [(tb : Int)])) := hide ⟨by rw [List.length_append, HBL.out]; rfl, by rw [List.length_append, HOL.out]; rfl, slotsOk_app HSb.out hta, slotsOk_app HSo.out htb⟩
          go_wp2
          go_roundw
          case rel => exact ⟨j + 1, _, _, _, _, by omega, by go_num, HM3, HSN, HR3, HQ3⟩
          case measure => simp [intOf]; omega
        · go_simp
          refine (next_rb rb N l n c (10 + 2 * j + 1) 2 w _ HV.out HL.out (HM2.out.kept.drewN 1) hwrb (HR2.out.drewN 1) (by omega) (by omega) (by omega)).mono ?_
          rintro e xb ⟨tb, rfl, htb, hrb, hkb⟩
          have hkdb : Kept [rb] wq xb := ((Kept.refl [rb] wq).drewN 1).trans hkb (by simp)
          have hMb := HM2.out.kept_ HPS.out hkdb
          have cwb := hMb.c.2.1
          have cxb : (xb.alloc (.cells #[.int .i64 (tb : Int)] 3)).cell? ⟨s, 12, none⟩ = some (.slice A6 j c6) := ((Kept.refl [] xb).alloc _).cell cwb (by simp)
          have hOb : xb.ownsRow Bz 3 1 (.slice A6 j c6) j (ov.map I) := by have h := hMb.ov; dsimp only at h; rw [HOL.out] at h; exact h
          refine hK _ _ trivial ?_
          clear hK K
          try simp only [Act.put, List.setIfInBounds_toArray, List.set_cons_zero, List.set_cons_succ]
          refine next_two (i := 1) (j := 4) (o := ⟨some 69, _, _, _, _, _⟩) (o' := ⟨some 72, _, _, _, _, _⟩) (by kernel_rfl) rfl (by rfl) rfl (by rfl) (fun K hK => ?_) (fun K hK => ?_)
          · go_simp
            refine hK _ _ trivial ?_
            clear hK K
            try simp only [Act.put, List.setIfInBounds_toArray, List.set_cons_zero, List.set_cons_succ]
            refine held_one (i := 4) (o := ⟨some 72, _, _, _, _, _⟩) rfl (by kernel_rfl) (by rfl) (fun K hK => ?_)
            go_simp
            refine hK.out _ _ (by trivial) (fun hHeld => ?_)
            clear hK K
            try simp only [Act.put, List.setIfInBounds_toArray, List.set_cons_zero, List.set_cons_succ]
            refine held_one (i := 5) (o := ⟨some 73, _, _, _, _, _⟩) rfl (by kernel_rfl) (by rfl) (fun K hK => ?_)
            refine wp_append_vals (o := ⟨some 73, _, _, _, _, _⟩) (.tmp 69) (.tmp 72) 25 rfl Bz 3 (.int .i64 0) 1 8 Try.underlying25 base.int_info rfl (by omega) (.slice A6 j c6) j (ov.map I) (by go_simp) (own_keep hOb ((Kept.refl [] xb).alloc _) (by simp)) [] _ 1 1 ([(tb : Int)].map I) (by go_simp) rfl (base.vals_one _ [] _ _ (by simp)) (oneCell_I [(tb : Int)]) (by simp only [maxLen]; omega) (by omega) (by have := hMb.size; simp; omega) ?_
            intro vb wb hownb hkzb hatb
            have hizb := own_blk hOb
            have hSb := hkzb.blk ((hMb.kept_ (S := []) (by simp) ((Kept.refl [] xb).alloc (.cells #[.int .i64 (tb : Int)] 3))).rec_) (fun hm => by have := (hizb s hm).1; omega)
            have y4b := hSb.cell 12
            have y5b := hSb.frozen 12
            obtain ⟨Ab, cb, rfl, _⟩ := own_read hownb
            refine hK.out _ _ (by trivial) (fun hHeld => ?_)
            clear hK K
            try simp only [Act.put, List.setIfInBounds_toArray, List.set_cons_zero, List.set_cons_succ]
            refine wpAnyH_take (i := 6) (oi := ⟨some 74, _, _, _, _, _⟩) (v := ?v5020) rfl (by kernel_rfl) (by kernel_rfl) (by kernel_rfl) (fun _ _ _ h => h) (Or.inl ⟨by rfl, ?hy5020⟩) (by trivial) ?rest5020
            case hy5020 => (intro W hSw; go_simp; try with_reducible rfl)
            try simp only [Act.put, List.setIfInBounds_toArray, List.set_cons_zero, List.set_cons_succ]
            refine held_one (i := 7) (o := ⟨none, _, _, _, _, _⟩) rfl (by kernel_rfl) (by rfl) (fun K hK => ?_)
            go_simp
            refine hK.out _ _ (by trivial) (fun hHeld => ?_)
            clear hK K
            try simp only [Act.put, List.setIfInBounds_toArray, List.set_cons_zero, List.set_cons_succ]
            refine wpAnyH_done (by kernel_rfl) ?_ _
            refine NoPanic.normal ?_
            clear cxb
            have hMX := hMb.app_ov (by omega) hgB hsB hws ((Kept.refl [] xb).alloc (.cells #[.int .i64 (tb : Int)] 3)) (tb : Int) (by dsimp only; rw [HOL.out]; exact hownb) hkzb hatb
            have HM3 : Hid (MR (wb.setCell ⟨s, 12, none⟩ (.slice Ab (j + 1) cb)) w g s Bz { T with bs := bs ++ [(ta : Int)], ov := ov ++ [(tb : Int)] } (.slice Aa (j + 1) ca) (.slice Ab (j + 1) cb) (.slice none 0 0)) := hide hMX
            have hkx : Kept [rb] wq (xb.alloc (.cells #[.int .i64 (tb : Int)] 3)) := hkdb.alloc _
            have hks9 : Kept [s] wb (wb.setCell ⟨s, 12, none⟩ (.slice Ab (j + 1) cb)) := (Kept.refl [s] wb).set_ (b := s) (.inl (by simp)) 12 _
            have HR3 : Hid (Blk (wb.setCell ⟨s, 12, none⟩ (.slice Ab (j + 1) cb)) rb 98 #[.slice N n c, .int .i64 ((10 + 2 * j + 1 + 1 : Nat) : Int)]) := hide (hks9.blk (hkzb.blk (Blk.alloc hrb _) (fun hm => by have := (hizb rb hm).1; omega)) (by simp; omega))
            have HQ3 := hide (hks9.blk (hkzb.blk (hkx.blk HQ2.out hcr) (fun hm => by have := (hizb cq hm).1; omega)) hcs)
            clear hMX hkx hks9 hkdb hMb hOb cwb hownb hkzb hatb hizb hSb y4b y5b hrb hkb hHeld c12
            have HSN : Hid ((bs ++ [(ta : Int)]).length = j + 1 ∧ (ov ++ [(tb : Int)]).length = j + 1 ∧ slotsOk (bs ++ [(ta : Int)]) ∧ slotsOk (ov ++ [(tb : Int)])) := hide ⟨by rw [List.length_append, HBL.out]; rfl, by rw [List.length_append, HOL.out]; rfl, slotsOk_app HSb.out hta, slotsOk_app HSo.out htb⟩
            go_wp2
            go_roundw
            case rel => exact ⟨j + 1, _, _, _, _, by omega, by go_num, HM3, HSN, HR3, HQ3⟩
            case measure => simp [intOf]; omega
          · go_simp
            refine hK _ _ trivial ?_
            clear hK K
            try simp only [Act.put, List.setIfInBounds_toArray, List.set_cons_zero, List.set_cons_succ]
            refine held_one (i := 1) (o := ⟨some 69, _, _, _, _, _⟩) rfl (by kernel_rfl) (by rfl) (fun K hK => ?_)
            go_simp
            refine hK.out _ _ (by trivial) (fun hHeld => ?_)
            clear hK K
            try simp only [Act.put, List.setIfInBounds_toArray, List.set_cons_zero, List.set_cons_succ]
            refine held_one (i := 5) (o := ⟨some 73, _, _, _, _, _⟩) rfl (by kernel_rfl) (by rfl) (fun K hK => ?_)
            refine wp_append_vals (o := ⟨some 73, _, _, _, _, _⟩) (.tmp 69) (.tmp 72) 25 rfl Bz 3 (.int .i64 0) 1 8 Try.underlying25 base.int_info rfl (by omega) (.slice A6 j c6) j (ov.map I) (by go_simp) (own_keep hOb ((Kept.refl [] xb).alloc _) (by simp)) [] _ 1 1 ([(tb : Int)].map I) (by go_simp) rfl (base.vals_one _ [] _ _ (by simp)) (oneCell_I [(tb : Int)]) (by simp only [maxLen]; omega) (by omega) (by have := hMb.size; simp; omega) ?_
            intro vb wb hownb hkzb hatb
            have hizb := own_blk hOb
            have hSb := hkzb.blk ((hMb.kept_ (S := []) (by simp) ((Kept.refl [] xb).alloc (.cells #[.int .i64 (tb : Int)] 3))).rec_) (fun hm => by have := (hizb s hm).1; omega)
            have y4b := hSb.cell 12
            have y5b := hSb.frozen 12
            obtain ⟨Ab, cb, rfl, _⟩ := own_read hownb
            refine hK.out _ _ (by trivial) (fun hHeld => ?_)
            clear hK K
            try simp only [Act.put, List.setIfInBounds_toArray, List.set_cons_zero, List.set_cons_succ]
            refine wpAnyH_take (i := 6) (oi := ⟨some 74, _, _, _, _, _⟩) (v := ?v5021) rfl (by kernel_rfl) (by kernel_rfl) (by kernel_rfl) (fun _ _ _ h => h) (Or.inl ⟨by rfl, ?hy5021⟩) (by trivial) ?rest5021
            case hy5021 => (intro W hSw; go_simp; try with_reducible rfl)
            try simp only [Act.put, List.setIfInBounds_toArray, List.set_cons_zero, List.set_cons_succ]
            refine held_one (i := 7) (o := ⟨none, _, _, _, _, _⟩) rfl (by kernel_rfl) (by rfl) (fun K hK => ?_)
            go_simp
            refine hK.out _ _ (by trivial) (fun hHeld => ?_)
            clear hK K
            try simp only [Act.put, List.setIfInBounds_toArray, List.set_cons_zero, List.set_cons_succ]
            refine wpAnyH_done (by kernel_rfl) ?_ _
            refine NoPanic.normal ?_
            clear cxb
            have hMX := hMb.app_ov (by omega) hgB hsB hws ((Kept.refl [] xb).alloc (.cells #[.int .i64 (tb : Int)] 3)) (tb : Int) (by dsimp only; rw [HOL.out]; exact hownb) hkzb hatb
            have HM3 : Hid (MR (wb.setCell ⟨s, 12, none⟩ (.slice Ab (j + 1) cb)) w g s Bz { T with bs := bs ++ [(ta : Int)], ov := ov ++ [(tb : Int)] } (.slice Aa (j + 1) ca) (.slice Ab (j + 1) cb) (.slice none 0 0)) := hide hMX
            have hkx : Kept [rb] wq (xb.alloc (.cells #[.int .i64 (tb : Int)] 3)) := hkdb.alloc _
            have hks9 : Kept [s] wb (wb.setCell ⟨s, 12, none⟩ (.slice Ab (j + 1) cb)) := (Kept.refl [s] wb).set_ (b := s) (.inl (by simp)) 12 _
            have HR3 : Hid (Blk (wb.setCell ⟨s, 12, none⟩ (.slice Ab (j + 1) cb)) rb 98 #[.slice N n c, .int .i64 ((10 + 2 * j + 1 + 1 : Nat) : Int)]) := hide (hks9.blk (hkzb.blk (Blk.alloc hrb _) (fun hm => by have := (hizb rb hm).1; omega)) (by simp; omega))
            have HQ3 := hide (hks9.blk (hkzb.blk (hkx.blk HQ2.out hcr) (fun hm => by have := (hizb cq hm).1; omega)) hcs)
            clear hMX hkx hks9 hkdb hMb hOb cwb hownb hkzb hatb hizb hSb y4b y5b hrb hkb hHeld c12
            have HSN : Hid ((bs ++ [(ta : Int)]).length = j + 1 ∧ (ov ++ [(tb : Int)]).length = j + 1 ∧ slotsOk (bs ++ [(ta : Int)]) ∧ slotsOk (ov ++ [(tb : Int)])) := hide ⟨by rw [List.length_append, HBL.out]; rfl, by rw [List.length_append, HOL.out]; rfl, slotsOk_app HSb.out hta, slotsOk_app HSo.out htb⟩
            go_wp2
            go_roundw
            case rel => exact ⟨j + 1, _, _, _, _, by omega, by go_num, HM3, HSN, HR3, HQ3⟩
            case measure => simp [intOf]; omega
      · go_simp
        refine (next_rb rb N l n c (10 + 2 * j) 2 w _ HV.out HL.out (HM1.out.kept.drewN 1) hwrb (HR1.out.drewN 1) (by omega) (by omega) (by omega)).mono ?_
        rintro e xa ⟨ta, rfl, hta, hra, hka⟩
        have hkda : Kept [rb] wp xa := ((Kept.refl [rb] wp).drewN 1).trans hka (by simp)
        have hMa := HM1.out.kept_ HPS.out hkda
        have cwa := hMa.c.1
        have cxa : (xa.alloc (.cells #[.int .i64 (ta : Int)] 3)).cell? ⟨s, 11, none⟩ = some (.slice A2 j cc) := ((Kept.refl [] xa).alloc _).cell cwa (by simp)
        have hOa : xa.ownsRow Bz 3 1 (.slice A2 j cc) j (bs.map I) := by have h := hMa.bs; dsimp only at h; rw [HBL.out] at h; exact h
        refine hK _ _ trivial ?_
        clear hK K
        try simp only [Act.put, List.setIfInBounds_toArray, List.set_cons_zero, List.set_cons_succ]
        refine next_two (i := 1) (j := 4) (o := ⟨some 62, _, _, _, _, _⟩) (o' := ⟨some 65, _, _, _, _, _⟩) (by kernel_rfl) rfl (by rfl) rfl (by rfl) (fun K hK => ?_) (fun K hK => ?_)
        · go_simp
          refine hK _ _ trivial ?_
          clear hK K
          try simp only [Act.put, List.setIfInBounds_toArray, List.set_cons_zero, List.set_cons_succ]
          refine held_one (i := 4) (o := ⟨some 65, _, _, _, _, _⟩) rfl (by kernel_rfl) (by rfl) (fun K hK => ?_)
          go_simp
          refine hK.out _ _ (by trivial) (fun hHeld => ?_)
          clear hK K
          try simp only [Act.put, List.setIfInBounds_toArray, List.set_cons_zero, List.set_cons_succ]
          refine held_one (i := 5) (o := ⟨some 66, _, _, _, _, _⟩) rfl (by kernel_rfl) (by rfl) (fun K hK => ?_)
          refine wp_append_vals (o := ⟨some 66, _, _, _, _, _⟩) (.tmp 62) (.tmp 65) 25 rfl Bz 3 (.int .i64 0) 1 8 Try.underlying25 base.int_info rfl (by omega) (.slice A2 j cc) j (bs.map I) (by go_simp) (own_keep hOa ((Kept.refl [] xa).alloc _) (by simp)) [] _ 1 1 ([(ta : Int)].map I) (by go_simp) rfl (base.vals_one _ [] _ _ (by simp)) (oneCell_I [(ta : Int)]) (by simp only [maxLen]; omega) (by omega) (by have := hMa.size; simp; omega) ?_
          intro va wa howna hkza hata
          have hiza := own_blk hOa
          have hSa := hkza.blk ((hMa.kept_ (S := []) (by simp) ((Kept.refl [] xa).alloc (.cells #[.int .i64 (ta : Int)] 3))).rec_) (fun hm => by have := (hiza s hm).1; omega)
          have y4a := hSa.cell 11
          have y5a := hSa.frozen 11
          obtain ⟨Aa, ca, rfl, _⟩ := own_read howna
          refine hK.out _ _ (by trivial) (fun hHeld => ?_)
          clear hK K
          try simp only [Act.put, List.setIfInBounds_toArray, List.set_cons_zero, List.set_cons_succ]
          refine wpAnyH_take (i := 6) (oi := ⟨some 67, _, _, _, _, _⟩) (v := ?v5022) rfl (by kernel_rfl) (by kernel_rfl) (by kernel_rfl) (fun _ _ _ h => h) (Or.inl ⟨by rfl, ?hy5022⟩) (by trivial) ?rest5022
          case hy5022 => (intro W hSw; go_simp; try with_reducible rfl)
          try simp only [Act.put, List.setIfInBounds_toArray, List.set_cons_zero, List.set_cons_succ]
          refine held_one (i := 7) (o := ⟨none, _, _, _, _, _⟩) rfl (by kernel_rfl) (by rfl) (fun K hK => ?_)
          go_simp
          refine hK.out _ _ (by trivial) (fun hHeld => ?_)
          clear hK K
          try simp only [Act.put, List.setIfInBounds_toArray, List.set_cons_zero, List.set_cons_succ]
          refine wpAnyH_done (by kernel_rfl) ?_ _
          refine NoPanic.normal ?_
          clear cxa
          have hMX := hMa.app_bs (by omega) hgB hsB hws ((Kept.refl [] xa).alloc (.cells #[.int .i64 (ta : Int)] 3)) (ta : Int) (by dsimp only; rw [HBL.out]; exact howna) hkza hata
          have HM2 : Hid (MR (wa.setCell ⟨s, 11, none⟩ (.slice Aa (j + 1) ca)) w g s Bz { T with bs := bs ++ [(ta : Int)], ov := ov } (.slice Aa (j + 1) ca) u (.slice none 0 0)) := hide hMX
          have hkx : Kept [rb] wp (xa.alloc (.cells #[.int .i64 (ta : Int)] 3)) := hkda.alloc _
          have hks9 : Kept [s] wa (wa.setCell ⟨s, 11, none⟩ (.slice Aa (j + 1) ca)) := (Kept.refl [s] wa).set_ (b := s) (.inl (by simp)) 11 _
          have HR2 : Hid (Blk (wa.setCell ⟨s, 11, none⟩ (.slice Aa (j + 1) ca)) rb 98 #[.slice N n c, .int .i64 ((10 + 2 * j + 1 : Nat) : Int)]) := hide (hks9.blk (hkza.blk (Blk.alloc hra _) (fun hm => by have := (hiza rb hm).1; omega)) (by simp; omega))
          have HQ2 := hide (hks9.blk (hkza.blk (hkx.blk HQ1.out hcr) (fun hm => by have := (hiza cq hm).1; omega)) hcs)
          clear hMX hkx hks9 hkda hMa hOa cwa howna hkza hata hiza hSa y4a y5a hra hka hHeld c11
          generalize wa.setCell ⟨s, 11, none⟩ (.slice Aa (j + 1) ca) = wq at *
          obtain ⟨A6, c6, rfl, _⟩ := own_read HM2.out.ov
          dsimp only at HM2
          rw [HOL.out] at HM2
          have c12 : (World.drew wq).cell? ⟨s, 12, none⟩ = some (.slice A6 j c6) := HM2.out.c.2.1
          go_wp2_with fail
          refine wp_region_noPanic ?_
          refine wp_region_held_drew (S := fun _ => True) (by kernel_rfl) (by trivial) (fun hHeld => ?_)
          refine wpAnyH_take (i := 0) (oi := ⟨some 68, _, _, _, _, _⟩) (v := ?v5023) rfl (by kernel_rfl) (by kernel_rfl) (by kernel_rfl) (fun _ _ _ h => h) (Or.inl ⟨by rfl, ?hy5023⟩) (by trivial) ?rest5023
          case hy5023 => (intro W hSw; go_simp; try with_reducible rfl)
          try simp only [Act.put, List.setIfInBounds_toArray, List.set_cons_zero, List.set_cons_succ]
          refine wpAnyH_take (i := 2) (oi := ⟨some 70, _, _, _, _, _⟩) (v := ?v5024) rfl (by kernel_rfl) (by kernel_rfl) (by kernel_rfl) (fun _ _ _ h => h) (Or.inl ⟨by rfl, ?hy5024⟩) (by trivial) ?rest5024
          case hy5024 => (intro W hSw; go_simp; try with_reducible rfl)
          try simp only [Act.put, List.setIfInBounds_toArray, List.set_cons_zero, List.set_cons_succ]
          refine next_two (i := 1) (j := 3) (o := ⟨some 69, _, _, _, _, _⟩) (o' := ⟨some 71, _, _, _, _, _⟩) (by kernel_rfl) rfl (by rfl) rfl (by rfl) (fun K hK => ?_) (fun K hK => ?_)
          · go_simp
            refine hK _ _ trivial ?_
            clear hK K
            try simp only [Act.put, List.setIfInBounds_toArray, List.set_cons_zero, List.set_cons_succ]
            refine held_one (i := 3) (o := ⟨some 71, _, _, _, _, _⟩) rfl (by kernel_rfl) (by rfl) (fun K hK => ?_)
            go_simp
            refine (next_rb rb N l n c (10 + 2 * j + 1) 2 w _ HV.out HL.out (HM2.out.kept.drewN 1) hwrb (HR2.out.drewN 1) (by omega) (by omega) (by omega)).mono ?_
            rintro e xb ⟨tb, rfl, htb, hrb, hkb⟩
            have hkdb : Kept [rb] wq xb := ((Kept.refl [rb] wq).drewN 1).trans hkb (by simp)
            have hMb := HM2.out.kept_ HPS.out hkdb
            have cwb := hMb.c.2.1
            have cxb : (xb.alloc (.cells #[.int .i64 (tb : Int)] 3)).cell? ⟨s, 12, none⟩ = some (.slice A6 j c6) := ((Kept.refl [] xb).alloc _).cell cwb (by simp)
            have hOb : xb.ownsRow Bz 3 1 (.slice A6 j c6) j (ov.map I) := by have h := hMb.ov; dsimp only at h; rw [HOL.out] at h; exact h
            refine hK.out _ _ (by trivial) (fun hHeld => ?_)
            clear hK K
            try simp only [Act.put, List.setIfInBounds_toArray, List.set_cons_zero, List.set_cons_succ]
            refine held_one (i := 4) (o := ⟨some 72, _, _, _, _, _⟩) rfl (by kernel_rfl) (by rfl) (fun K hK => ?_)
            go_simp
            refine hK.out _ _ (by trivial) (fun hHeld => ?_)
            clear hK K
            try simp only [Act.put, List.setIfInBounds_toArray, List.set_cons_zero, List.set_cons_succ]
            refine held_one (i := 5) (o := ⟨some 73, _, _, _, _, _⟩) rfl (by kernel_rfl) (by rfl) (fun K hK => ?_)
            refine wp_append_vals (o := ⟨some 73, _, _, _, _, _⟩) (.tmp 69) (.tmp 72) 25 rfl Bz 3 (.int .i64 0) 1 8 Try.underlying25 base.int_info rfl (by omega) (.slice A6 j c6) j (ov.map I) (by go_simp) (own_keep hOb ((Kept.refl [] xb).alloc _) (by simp)) [] _ 1 1 ([(tb : Int)].map I) (by go_simp) rfl (base.vals_one _ [] _ _ (by simp)) (oneCell_I [(tb : Int)]) (by simp only [maxLen]; omega) (by omega) (by have := hMb.size; simp; omega) ?_
            intro vb wb hownb hkzb hatb
            have hizb := own_blk hOb
            have hSb := hkzb.blk ((hMb.kept_ (S := []) (by simp) ((Kept.refl [] xb).alloc (.cells #[.int .i64 (tb : Int)] 3))).rec_) (fun hm => by have := (hizb s hm).1; omega)
            have y4b := hSb.cell 12
            have y5b := hSb.frozen 12
            obtain ⟨Ab, cb, rfl, _⟩ := own_read hownb
            refine hK.out _ _ (by trivial) (fun hHeld => ?_)
            clear hK K
            try simp only [Act.put, List.setIfInBounds_toArray, List.set_cons_zero, List.set_cons_succ]
            refine wpAnyH_take (i := 6) (oi := ⟨some 74, _, _, _, _, _⟩) (v := ?v5025) rfl (by kernel_rfl) (by kernel_rfl) (by kernel_rfl) (fun _ _ _ h => h) (Or.inl ⟨by rfl, ?hy5025⟩) (by trivial) ?rest5025
            case hy5025 => (intro W hSw; go_simp; try with_reducible rfl)
            try simp only [Act.put, List.setIfInBounds_toArray, List.set_cons_zero, List.set_cons_succ]
            refine held_one (i := 7) (o := ⟨none, _, _, _, _, _⟩) rfl (by kernel_rfl) (by rfl) (fun K hK => ?_)
            go_simp
            refine hK.out _ _ (by trivial) (fun hHeld => ?_)
            clear hK K
            try simp only [Act.put, List.setIfInBounds_toArray, List.set_cons_zero, List.set_cons_succ]
            refine wpAnyH_done (by kernel_rfl) ?_ _
            refine NoPanic.normal ?_
            clear cxb
            have hMX := hMb.app_ov (by omega) hgB hsB hws ((Kept.refl [] xb).alloc (.cells #[.int .i64 (tb : Int)] 3)) (tb : Int) (by dsimp only; rw [HOL.out]; exact hownb) hkzb hatb
            have HM3 : Hid (MR (wb.setCell ⟨s, 12, none⟩ (.slice Ab (j + 1) cb)) w g s Bz { T with bs := bs ++ [(ta : Int)], ov := ov ++ [(tb : Int)] } (.slice Aa (j + 1) ca) (.slice Ab (j + 1) cb) (.slice none 0 0)) := hide hMX
            have hkx : Kept [rb] wq (xb.alloc (.cells #[.int .i64 (tb : Int)] 3)) := hkdb.alloc _
            have hks9 : Kept [s] wb (wb.setCell ⟨s, 12, none⟩ (.slice Ab (j + 1) cb)) := (Kept.refl [s] wb).set_ (b := s) (.inl (by simp)) 12 _
            have HR3 : Hid (Blk (wb.setCell ⟨s, 12, none⟩ (.slice Ab (j + 1) cb)) rb 98 #[.slice N n c, .int .i64 ((10 + 2 * j + 1 + 1 : Nat) : Int)]) := hide (hks9.blk (hkzb.blk (Blk.alloc hrb _) (fun hm => by have := (hizb rb hm).1; omega)) (by simp; omega))
            have HQ3 := hide (hks9.blk (hkzb.blk (hkx.blk HQ2.out hcr) (fun hm => by have := (hizb cq hm).1; omega)) hcs)
            clear hMX hkx hks9 hkdb hMb hOb cwb hownb hkzb hatb hizb hSb y4b y5b hrb hkb hHeld c12
            have HSN : Hid ((bs ++ [(ta : Int)]).length = j + 1 ∧ (ov ++ [(tb : Int)]).length = j + 1 ∧ slotsOk (bs ++ [(ta : Int)]) ∧ slotsOk (ov ++ [(tb : Int)])) := hide ⟨by rw [List.length_append, HBL.out]; rfl, by rw [List.length_append, HOL.out]; rfl, slotsOk_app HSb.out hta, slotsOk_app HSo.out htb⟩
            go_wp2
            go_roundw
            case rel => exact ⟨j + 1, _, _, _, _, by omega, by go_num, HM3, HSN, HR3, HQ3⟩
            case measure => simp [intOf]; omega
          · go_simp
            refine (next_rb rb N l n c (10 + 2 * j + 1) 2 w _ HV.out HL.out (HM2.out.kept.drewN 1) hwrb (HR2.out.drewN 1) (by omega) (by omega) (by omega)).mono ?_
            rintro e xb ⟨tb, rfl, htb, hrb, hkb⟩
            have hkdb : Kept [rb] wq xb := ((Kept.refl [rb] wq).drewN 1).trans hkb (by simp)
            have hMb := HM2.out.kept_ HPS.out hkdb
            have cwb := hMb.c.2.1
            have cxb : (xb.alloc (.cells #[.int .i64 (tb : Int)] 3)).cell? ⟨s, 12, none⟩ = some (.slice A6 j c6) := ((Kept.refl [] xb).alloc _).cell cwb (by simp)
            have hOb : xb.ownsRow Bz 3 1 (.slice A6 j c6) j (ov.map I) := by have h := hMb.ov; dsimp only at h; rw [HOL.out] at h; exact h
            refine hK _ _ trivial ?_
            clear hK K
            try simp only [Act.put, List.setIfInBounds_toArray, List.set_cons_zero, List.set_cons_succ]
            refine next_two (i := 1) (j := 4) (o := ⟨some 69, _, _, _, _, _⟩) (o' := ⟨some 72, _, _, _, _, _⟩) (by kernel_rfl) rfl (by rfl) rfl (by rfl) (fun K hK => ?_) (fun K hK => ?_)
            · go_simp
              refine hK _ _ trivial ?_
              clear hK K
              try simp only [Act.put, List.setIfInBounds_toArray, List.set_cons_zero, List.set_cons_succ]
              refine held_one (i := 4) (o := ⟨some 72, _, _, _, _, _⟩) rfl (by kernel_rfl) (by rfl) (fun K hK => ?_)
              go_simp
              refine hK.out _ _ (by trivial) (fun hHeld => ?_)
              clear hK K
              try simp only [Act.put, List.setIfInBounds_toArray, List.set_cons_zero, List.set_cons_succ]
              refine held_one (i := 5) (o := ⟨some 73, _, _, _, _, _⟩) rfl (by kernel_rfl) (by rfl) (fun K hK => ?_)
              refine wp_append_vals (o := ⟨some 73, _, _, _, _, _⟩) (.tmp 69) (.tmp 72) 25 rfl Bz 3 (.int .i64 0) 1 8 Try.underlying25 base.int_info rfl (by omega) (.slice A6 j c6) j (ov.map I) (by go_simp) (own_keep hOb ((Kept.refl [] xb).alloc _) (by simp)) [] _ 1 1 ([(tb : Int)].map I) (by go_simp) rfl (base.vals_one _ [] _ _ (by simp)) (oneCell_I [(tb : Int)]) (by simp only [maxLen]; omega) (by omega) (by have := hMb.size; simp; omega) ?_
              intro vb wb hownb hkzb hatb
              have hizb := own_blk hOb
              have hSb := hkzb.blk ((hMb.kept_ (S := []) (by simp) ((Kept.refl [] xb).alloc (.cells #[.int .i64 (tb : Int)] 3))).rec_) (fun hm => by have := (hizb s hm).1; omega)
              have y4b := hSb.cell 12
              have y5b := hSb.frozen 12
              obtain ⟨Ab, cb, rfl, _⟩ := own_read hownb
              refine hK.out _ _ (by trivial) (fun hHeld => ?_)
              clear hK K
              try simp only [Act.put, List.setIfInBounds_toArray, List.set_cons_zero, List.set_cons_succ]
              refine wpAnyH_take (i := 6) (oi := ⟨some 74, _, _, _, _, _⟩) (v := ?v5026) rfl (by kernel_rfl) (by kernel_rfl) (by kernel_rfl) (fun _ _ _ h => h) (Or.inl ⟨by rfl, ?hy5026⟩) (by trivial) ?rest5026
              case hy5026 => (intro W hSw; go_simp; try with_reducible rfl)
              try simp only [Act.put, List.setIfInBounds_toArray, List.set_cons_zero, List.set_cons_succ]
              refine held_one (i := 7) (o := ⟨none, _, _, _, _, _⟩) rfl (by kernel_rfl) (by rfl) (fun K hK => ?_)
              go_simp
              refine hK.out _ _ (by trivial) (fun hHeld => ?_)
              clear hK K
              try simp only [Act.put, List.setIfInBounds_toArray, List.set_cons_zero, List.set_cons_succ]
              refine wpAnyH_done (by kernel_rfl) ?_ _
              refine NoPanic.normal ?_
              clear cxb
              have hMX := hMb.app_ov (by omega) hgB hsB hws ((Kept.refl [] xb).alloc (.cells #[.int .i64 (tb : Int)] 3)) (tb : Int) (by dsimp only; rw [HOL.out]; exact hownb) hkzb hatb
              have HM3 : Hid (MR (wb.setCell ⟨s, 12, none⟩ (.slice Ab (j + 1) cb)) w g s Bz { T with bs := bs ++ [(ta : Int)], ov := ov ++ [(tb : Int)] } (.slice Aa (j + 1) ca) (.slice Ab (j + 1) cb) (.slice none 0 0)) := hide hMX
              have hkx : Kept [rb] wq (xb.alloc (.cells #[.int .i64 (tb : Int)] 3)) := hkdb.alloc _
              have hks9 : Kept [s] wb (wb.setCell ⟨s, 12, none⟩ (.slice Ab (j + 1) cb)) := (Kept.refl [s] wb).set_ (b := s) (.inl (by simp)) 12 _
              have HR3 : Hid (Blk (wb.setCell ⟨s, 12, none⟩ (.slice Ab (j + 1) cb)) rb 98 #[.slice N n c, .int .i64 ((10 + 2 * j + 1 + 1 : Nat) : Int)]) := hide (hks9.blk (hkzb.blk (Blk.alloc hrb _) (fun hm => by have := (hizb rb hm).1; omega)) (by simp; omega))
              have HQ3 := hide (hks9.blk (hkzb.blk (hkx.blk HQ2.out hcr) (fun hm => by have := (hizb cq hm).1; omega)) hcs)
              clear hMX hkx hks9 hkdb hMb hOb cwb hownb hkzb hatb hizb hSb y4b y5b hrb hkb hHeld c12
              have HSN : Hid ((bs ++ [(ta : Int)]).length = j + 1 ∧ (ov ++ [(tb : Int)]).length = j + 1 ∧ slotsOk (bs ++ [(ta : Int)]) ∧ slotsOk (ov ++ [(tb : Int)])) := hide ⟨by rw [List.length_append, HBL.out]; rfl, by rw [List.length_append, HOL.out]; rfl, slotsOk_app HSb.out hta, slotsOk_app HSo.out htb⟩
              go_wp2
              go_roundw
              case rel => exact ⟨j + 1, _, _, _, _, by omega, by go_num, HM3, HSN, HR3, HQ3⟩
              case measure => simp [intOf]; omega
            · go_simp
              refine hK _ _ trivial ?_
              clear hK K
              try simp only [Act.put, List.setIfInBounds_toArray, List.set_cons_zero, List.set_cons_succ]
              refine held_one (i := 1) (o := ⟨some 69, _, _, _, _, _⟩) rfl (by kernel_rfl) (by rfl) (fun K hK => ?_)
              go_simp
              refine hK.out _ _ (by trivial) (fun hHeld => ?_)
              clear hK K
              try simp only [Act.put, List.setIfInBounds_toArray, List.set_cons_zero, List.set_cons_succ]
              refine held_one (i := 5) (o := ⟨some 73, _, _, _, _, _⟩) rfl (by kernel_rfl) (by rfl) (fun K hK => ?_)
              refine wp_append_vals (o := ⟨some 73, _, _, _, _, _⟩) (.tmp 69) (.tmp 72) 25 rfl Bz 3 (.int .i64 0) 1 8 Try.underlying25 base.int_info rfl (by omega) (.slice A6 j c6) j (ov.map I) (by go_simp) (own_keep hOb ((Kept.refl [] xb).alloc _) (by simp)) [] _ 1 1 ([(tb : Int)].map I) (by go_simp) rfl (base.vals_one _ [] _ _ (by simp)) (oneCell_I [(tb : Int)]) (by simp only [maxLen]; omega) (by omega) (by have := hMb.size; simp; omega) ?_
              intro vb wb hownb hkzb hatb
              have hizb := own_blk hOb
              have hSb := hkzb.blk ((hMb.kept_ (S := []) (by simp) ((Kept.refl [] xb).alloc (.cells #[.int .i64 (tb : Int)] 3))).rec_) (fun hm => by have := (hizb s hm).1; omega)
              have y4b := hSb.cell 12
              have y5b := hSb.frozen 12
              obtain ⟨Ab, cb, rfl, _⟩ := own_read hownb
              refine hK.out _ _ (by trivial) (fun hHeld => ?_)
              clear hK K
              try simp only [Act.put, List.setIfInBounds_toArray, List.set_cons_zero, List.set_cons_succ]
              refine wpAnyH_take (i := 6) (oi := ⟨some 74, _, _, _, _, _⟩) (v := ?v5027) rfl (by kernel_rfl) (by kernel_rfl) (by kernel_rfl) (fun _ _ _ h => h) (Or.inl ⟨by rfl, ?hy5027⟩) (by trivial) ?rest5027
              case hy5027 => (intro W hSw; go_simp; try with_reducible rfl)
              try simp only [Act.put, List.setIfInBounds_toArray, List.set_cons_zero, List.set_cons_succ]
              refine held_one (i := 7) (o := ⟨none, _, _, _, _, _⟩) rfl (by kernel_rfl) (by rfl) (fun K hK => ?_)
              go_simp
              refine hK.out _ _ (by trivial) (fun hHeld => ?_)
              clear hK K
              try simp only [Act.put, List.setIfInBounds_toArray, List.set_cons_zero, List.set_cons_succ]
              refine wpAnyH_done (by kernel_rfl) ?_ _
              refine NoPanic.normal ?_
              clear cxb
              have hMX := hMb.app_ov (by omega) hgB hsB hws ((Kept.refl [] xb).alloc (.cells #[.int .i64 (tb : Int)] 3)) (tb : Int) (by dsimp only; rw [HOL.out]; exact hownb) hkzb hatb
              have HM3 : Hid (MR (wb.setCell ⟨s, 12, none⟩ (.slice Ab (j + 1) cb)) w g s Bz { T with bs := bs ++ [(ta : Int)], ov := ov ++ [(tb : Int)] } (.slice Aa (j + 1) ca) (.slice Ab (j + 1) cb) (.slice none 0 0)) := hide hMX
              have hkx : Kept [rb] wq (xb.alloc (.cells #[.int .i64 (tb : Int)] 3)) := hkdb.alloc _
              have hks9 : Kept [s] wb (wb.setCell ⟨s, 12, none⟩ (.slice Ab (j + 1) cb)) := (Kept.refl [s] wb).set_ (b := s) (.inl (by simp)) 12 _
              have HR3 : Hid (Blk (wb.setCell ⟨s, 12, none⟩ (.slice Ab (j + 1) cb)) rb 98 #[.slice N n c, .int .i64 ((10 + 2 * j + 1 + 1 : Nat) : Int)]) := hide (hks9.blk (hkzb.blk (Blk.alloc hrb _) (fun hm => by have := (hizb rb hm).1; omega)) (by simp; omega))
              have HQ3 := hide (hks9.blk (hkzb.blk (hkx.blk HQ2.out hcr) (fun hm => by have := (hizb cq hm).1; omega)) hcs)
              clear hMX hkx hks9 hkdb hMb hOb cwb hownb hkzb hatb hizb hSb y4b y5b hrb hkb hHeld c12
              have HSN : Hid ((bs ++ [(ta : Int)]).length = j + 1 ∧ (ov ++ [(tb : Int)]).length = j + 1 ∧ slotsOk (bs ++ [(ta : Int)]) ∧ slotsOk (ov ++ [(tb : Int)])) := hide ⟨by rw [List.length_append, HBL.out]; rfl, by rw [List.length_append, HOL.out]; rfl, slotsOk_app HSb.out hta, slotsOk_app HSo.out htb⟩
              go_wp2
              go_roundw
              case rel => exact ⟨j + 1, _, _, _, _, by omega, by go_num, HM3, HSN, HR3, HQ3⟩
              case measure => simp [intOf]; omega
        · go_simp
          refine hK _ _ trivial ?_
          clear hK K
          try simp only [Act.put, List.setIfInBounds_toArray, List.set_cons_zero, List.set_cons_succ]
          refine held_one (i := 1) (o := ⟨some 62, _, _, _, _, _⟩) rfl (by kernel_rfl) (by rfl) (fun K hK => ?_)
          go_simp
          refine hK.out _ _ (by trivial) (fun hHeld => ?_)
          clear hK K
          try simp only [Act.put, List.setIfInBounds_toArray, List.set_cons_zero, List.set_cons_succ]
          refine held_one (i := 5) (o := ⟨some 66, _, _, _, _, _⟩) rfl (by kernel_rfl) (by rfl) (fun K hK => ?_)
          refine wp_append_vals (o := ⟨some 66, _, _, _, _, _⟩) (.tmp 62) (.tmp 65) 25 rfl Bz 3 (.int .i64 0) 1 8 Try.underlying25 base.int_info rfl (by omega) (.slice A2 j cc) j (bs.map I) (by go_simp) (own_keep hOa ((Kept.refl [] xa).alloc _) (by simp)) [] _ 1 1 ([(ta : Int)].map I) (by go_simp) rfl (base.vals_one _ [] _ _ (by simp)) (oneCell_I [(ta : Int)]) (by simp only [maxLen]; omega) (by omega) (by have := hMa.size; simp; omega) ?_
          intro va wa howna hkza hata
          have hiza := own_blk hOa
          have hSa := hkza.blk ((hMa.kept_ (S := []) (by simp) ((Kept.refl [] xa).alloc (.cells #[.int .i64 (ta : Int)] 3))).rec_) (fun hm => by have := (hiza s hm).1; omega)
          have y4a := hSa.cell 11
          have y5a := hSa.frozen 11
          obtain ⟨Aa, ca, rfl, _⟩ := own_read howna
          refine hK.out _ _ (by trivial) (fun hHeld => ?_)
          clear hK K
          try simp only [Act.put, List.setIfInBounds_toArray, List.set_cons_zero, List.set_cons_succ]
          refine wpAnyH_take (i := 6) (oi := ⟨some 67, _, _, _, _, _⟩) (v := ?v5028) rfl (by kernel_rfl) (by kernel_rfl) (by kernel_rfl) (fun _ _ _ h => h) (Or.inl ⟨by rfl, ?hy5028⟩) (by trivial) ?rest5028
          case hy5028 => (intro W hSw; go_simp; try with_reducible rfl)
          try simp only [Act.put, List.setIfInBounds_toArray, List.set_cons_zero, List.set_cons_succ]
          refine held_one (i := 7) (o := ⟨none, _, _, _, _, _⟩) rfl (by kernel_rfl) (by rfl) (fun K hK => ?_)
          go_simp
          refine hK.out _ _ (by trivial) (fun hHeld => ?_)
          clear hK K
          try simp only [Act.put, List.setIfInBounds_toArray, List.set_cons_zero, List.set_cons_succ]
          refine wpAnyH_done (by kernel_rfl) ?_ _
          refine NoPanic.normal ?_
          clear cxa
          have hMX := hMa.app_bs (by omega) hgB hsB hws ((Kept.refl [] xa).alloc (.cells #[.int .i64 (ta : Int)] 3)) (ta : Int) (by dsimp only; rw [HBL.out]; exact howna) hkza hata
          have HM2 : Hid (MR (wa.setCell ⟨s, 11, none⟩ (.slice Aa (j + 1) ca)) w g s Bz { T with bs := bs ++ [(ta : Int)], ov := ov } (.slice Aa (j + 1) ca) u (.slice none 0 0)) := hide hMX
          have hkx : Kept [rb] wp (xa.alloc (.cells #[.int .i64 (ta : Int)] 3)) := hkda.alloc _
          have hks9 : Kept [s] wa (wa.setCell ⟨s, 11, none⟩ (.slice Aa (j + 1) ca)) := (Kept.refl [s] wa).set_ (b := s) (.inl (by simp)) 11 _
          have HR2 : Hid (Blk (wa.setCell ⟨s, 11, none⟩ (.slice Aa (j + 1) ca)) rb 98 #[.slice N n c, .int .i64 ((10 + 2 * j + 1 : Nat) : Int)]) := hide (hks9.blk (hkza.blk (Blk.alloc hra _) (fun hm => by have := (hiza rb hm).1; omega)) (by simp; omega))
          have HQ2 := hide (hks9.blk (hkza.blk (hkx.blk HQ1.out hcr) (fun hm => by have := (hiza cq hm).1; omega)) hcs)
          clear hMX hkx hks9 hkda hMa hOa cwa howna hkza hata hiza hSa y4a y5a hra hka hHeld c11
          generalize wa.setCell ⟨s, 11, none⟩ (.slice Aa (j + 1) ca) = wq at *
          obtain ⟨A6, c6, rfl, _⟩ := own_read HM2.out.ov
          dsimp only at HM2
          rw [HOL.out] at HM2
          have c12 : (World.drew wq).cell? ⟨s, 12, none⟩ = some (.slice A6 j c6) := HM2.out.c.2.1
          go_wp2_with fail
          refine wp_region_noPanic ?_
          refine wp_region_held_drew (S := fun _ => True) (by kernel_rfl) (by trivial) (fun hHeld => ?_)
          refine wpAnyH_take (i := 0) (oi := ⟨some 68, _, _, _, _, _⟩) (v := ?v5029) rfl (by kernel_rfl) (by kernel_rfl) (by kernel_rfl) (fun _ _ _ h => h) (Or.inl ⟨by rfl, ?hy5029⟩) (by trivial) ?rest5029
          case hy5029 => (intro W hSw; go_simp; try with_reducible rfl)
          try simp only [Act.put, List.setIfInBounds_toArray, List.set_cons_zero, List.set_cons_succ]
          refine wpAnyH_take (i := 2) (oi := ⟨some 70, _, _, _, _, _⟩) (v := ?v5030) rfl (by kernel_rfl) (by kernel_rfl) (by kernel_rfl) (fun _ _ _ h => h) (Or.inl ⟨by rfl, ?hy5030⟩) (by trivial) ?rest5030
          case hy5030 => (intro W hSw; go_simp; try with_reducible rfl)
          try simp only [Act.put, List.setIfInBounds_toArray, List.set_cons_zero, List.set_cons_succ]
          refine next_two (i := 1) (j := 3) (o := ⟨some 69, _, _, _, _, _⟩) (o' := ⟨some 71, _, _, _, _, _⟩) (by kernel_rfl) rfl (by rfl) rfl (by rfl) (fun K hK => ?_) (fun K hK => ?_)
          · go_simp
            refine hK _ _ trivial ?_
            clear hK K
            try simp only [Act.put, List.setIfInBounds_toArray, List.set_cons_zero, List.set_cons_succ]
            refine held_one (i := 3) (o := ⟨some 71, _, _, _, _, _⟩) rfl (by kernel_rfl) (by rfl) (fun K hK => ?_)
            go_simp
            refine (next_rb rb N l n c (10 + 2 * j + 1) 2 w _ HV.out HL.out (HM2.out.kept.drewN 1) hwrb (HR2.out.drewN 1) (by omega) (by omega) (by omega)).mono ?_
            rintro e xb ⟨tb, rfl, htb, hrb, hkb⟩
            have hkdb : Kept [rb] wq xb := ((Kept.refl [rb] wq).drewN 1).trans hkb (by simp)
            have hMb := HM2.out.kept_ HPS.out hkdb
            have cwb := hMb.c.2.1
            have cxb : (xb.alloc (.cells #[.int .i64 (tb : Int)] 3)).cell? ⟨s, 12, none⟩ = some (.slice A6 j c6) := ((Kept.refl [] xb).alloc _).cell cwb (by simp)
            have hOb : xb.ownsRow Bz 3 1 (.slice A6 j c6) j (ov.map I) := by have h := hMb.ov; dsimp only at h; rw [HOL.out] at h; exact h
            refine hK.out _ _ (by trivial) (fun hHeld => ?_)
            clear hK K
            try simp only [Act.put, List.setIfInBounds_toArray, List.set_cons_zero, List.set_cons_succ]
            refine held_one (i := 4) (o := ⟨some 72, _, _, _, _, _⟩) rfl (by kernel_rfl) (by rfl) (fun K hK => ?_)
            go_simp
            refine hK.out _ _ (by trivial) (fun hHeld => ?_)
            clear hK K
            try simp only [Act.put, List.setIfInBounds_toArray, List.set_cons_zero, List.set_cons_succ]
            refine held_one (i := 5) (o := ⟨some 73, _, _, _, _, _⟩) rfl (by kernel_rfl) (by rfl) (fun K hK => ?_)
            refine wp_append_vals (o := ⟨some 73, _, _, _, _, _⟩) (.tmp 69) (.tmp 72) 25 rfl Bz 3 (.int .i64 0) 1 8 Try.underlying25 base.int_info rfl (by omega) (.slice A6 j c6) j (ov.map I) (by go_simp) (own_keep hOb ((Kept.refl [] xb).alloc _) (by simp)) [] _ 1 1 ([(tb : Int)].map I) (by go_simp) rfl (base.vals_one _ [] _ _ (by simp)) (oneCell_I [(tb : Int)]) (by simp only [maxLen]; omega) (by omega) (by have := hMb.size; simp; omega) ?_
            intro vb wb hownb hkzb hatb
            have hizb := own_blk hOb
            have hSb := hkzb.blk ((hMb.kept_ (S := []) (by simp) ((Kept.refl [] xb).alloc (.cells #[.int .i64 (tb : Int)] 3))).rec_) (fun hm => by have := (hizb s hm).1; omega)
            have y4b := hSb.cell 12
            have y5b := hSb.frozen 12
            obtain ⟨Ab, cb, rfl, _⟩ := own_read hownb
            refine hK.out _ _ (by trivial) (fun hHeld => ?_)
            clear hK K
            try simp only [Act.put, List.setIfInBounds_toArray, List.set_cons_zero, List.set_cons_succ]
            refine wpAnyH_take (i := 6) (oi := ⟨some 74, _, _, _, _, _⟩) (v := ?v5031) rfl (by kernel_rfl) (by kernel_rfl) (by kernel_rfl) (fun _ _ _ h => h) (Or.inl ⟨by rfl, ?hy5031⟩) (by trivial) ?rest5031
            case hy5031 => (intro W hSw; go_simp; try with_reducible rfl)
            try simp only [Act.put, List.setIfInBounds_toArray, List.set_cons_zero, List.set_cons_succ]
            refine held_one (i := 7) (o := ⟨none, _, _, _, _, _⟩) rfl (by kernel_rfl) (by rfl) (fun K hK => ?_)
            go_simp
            refine hK.out _ _ (by trivial) (fun hHeld => ?_)
            clear hK K
            try simp only [Act.put, List.setIfInBounds_toArray, List.set_cons_zero, List.set_cons_succ]
            refine wpAnyH_done (by kernel_rfl) ?_ _
            refine NoPanic.normal ?_
            clear cxb
            have hMX := hMb.app_ov (by omega) hgB hsB hws ((Kept.refl [] xb).alloc (.cells #[.int .i64 (tb : Int)] 3)) (tb : Int) (by dsimp only; rw [HOL.out]; exact hownb) hkzb hatb
            have HM3 : Hid (MR (wb.setCell ⟨s, 12, none⟩ (.slice Ab (j + 1) cb)) w g s Bz { T with bs := bs ++ [(ta : Int)], ov := ov ++ [(tb : Int)] } (.slice Aa (j + 1) ca) (.slice Ab (j + 1) cb) (.slice none 0 0)) := hide hMX
            have hkx : Kept [rb] wq (xb.alloc (.cells #[.int .i64 (tb : Int)] 3)) := hkdb.alloc _
            have hks9 : Kept [s] wb (wb.setCell ⟨s, 12, none⟩ (.slice Ab (j + 1) cb)) := (Kept.refl [s] wb).set_ (b := s) (.inl (by simp)) 12 _
            have HR3 : Hid (Blk (wb.setCell ⟨s, 12, none⟩ (.slice Ab (j + 1) cb)) rb 98 #[.slice N n c, .int .i64 ((10 + 2 * j + 1 + 1 : Nat) : Int)]) := hide (hks9.blk (hkzb.blk (Blk.alloc hrb _) (fun hm => by have := (hizb rb hm).1; omega)) (by simp; omega))
            have HQ3 := hide (hks9.blk (hkzb.blk (hkx.blk HQ2.out hcr) (fun hm => by have := (hizb cq hm).1; omega)) hcs)
            clear hMX hkx hks9 hkdb hMb hOb cwb hownb hkzb hatb hizb hSb y4b y5b hrb hkb hHeld c12
            have HSN : Hid ((bs ++ [(ta : Int)]).length = j + 1 ∧ (ov ++ [(tb : Int)]).length = j + 1 ∧ slotsOk (bs ++ [(ta : Int)]) ∧ slotsOk (ov ++ [(tb : Int)])) := hide ⟨by rw [List.length_append, HBL.out]; rfl, by rw [List.length_append, HOL.out]; rfl, slotsOk_app HSb.out hta, slotsOk_app HSo.out htb⟩
            go_wp2
            go_roundw
            case rel => exact ⟨j + 1, _, _, _, _, by omega, by go_num, HM3, HSN, HR3, HQ3⟩
            case measure => simp [intOf]; omega
          · go_simp
            refine (next_rb rb N l n c (10 + 2 * j + 1) 2 w _ HV.out HL.out (HM2.out.kept.drewN 1) hwrb (HR2.out.drewN 1) (by omega) (by omega) (by omega)).mono ?_
            rintro e xb ⟨tb, rfl, htb, hrb, hkb⟩
            have hkdb : Kept [rb] wq xb := ((Kept.refl [rb] wq).drewN 1).trans hkb (by simp)
            have hMb := HM2.out.kept_ HPS.out hkdb
            have cwb := hMb.c.2.1
            have cxb : (xb.alloc (.cells #[.int .i64 (tb : Int)] 3)).cell? ⟨s, 12, none⟩ = some (.slice A6 j c6) := ((Kept.refl [] xb).alloc _).cell cwb (by simp)
            have hOb : xb.ownsRow Bz 3 1 (.slice A6 j c6) j (ov.map I) := by have h := hMb.ov; dsimp only at h; rw [HOL.out] at h; exact h
            refine hK _ _ trivial ?_
            clear hK K
            try simp only [Act.put, List.setIfInBounds_toArray, List.set_cons_zero, List.set_cons_succ]
            refine next_two (i := 1) (j := 4) (o := ⟨some 69, _, _, _, _, _⟩) (o' := ⟨some 72, _, _, _, _, _⟩) (by kernel_rfl) rfl (by rfl) rfl (by rfl) (fun K hK => ?_) (fun K hK => ?_)
            · go_simp
              refine hK _ _ trivial ?_
              clear hK K
              try simp only [Act.put, List.setIfInBounds_toArray, List.set_cons_zero, List.set_cons_succ]
              refine held_one (i := 4) (o := ⟨some 72, _, _, _, _, _⟩) rfl (by kernel_rfl) (by rfl) (fun K hK => ?_)
              go_simp
              refine hK.out _ _ (by trivial) (fun hHeld => ?_)
              clear hK K
              try simp only [Act.put, List.setIfInBounds_toArray, List.set_cons_zero, List.set_cons_succ]
              refine held_one (i := 5) (o := ⟨some 73, _, _, _, _, _⟩) rfl (by kernel_rfl) (by rfl) (fun K hK => ?_)
              refine wp_append_vals (o := ⟨some 73, _, _, _, _, _⟩) (.tmp 69) (.tmp 72) 25 rfl Bz 3 (.int .i64 0) 1 8 Try.underlying25 base.int_info rfl (by omega) (.slice A6 j c6) j (ov.map I) (by go_simp) (own_keep hOb ((Kept.refl [] xb).alloc _) (by simp)) [] _ 1 1 ([(tb : Int)].map I) (by go_simp) rfl (base.vals_one _ [] _ _ (by simp)) (oneCell_I [(tb : Int)]) (by simp only [maxLen]; omega) (by omega) (by have := hMb.size; simp; omega) ?_
              intro vb wb hownb hkzb hatb
              have hizb := own_blk hOb
              have hSb := hkzb.blk ((hMb.kept_ (S := []) (by simp) ((Kept.refl [] xb).alloc (.cells #[.int .i64 (tb : Int)] 3))).rec_) (fun hm => by have := (hizb s hm).1; omega)
              have y4b := hSb.cell 12
              have y5b := hSb.frozen 12
              obtain ⟨Ab, cb, rfl, _⟩ := own_read hownb
              refine hK.out _ _ (by trivial) (fun hHeld => ?_)
              clear hK K
              try simp only [Act.put, List.setIfInBounds_toArray, List.set_cons_zero, List.set_cons_succ]
              refine wpAnyH_take (i := 6) (oi := ⟨some 74, _, _, _, _, _⟩) (v := ?v5032) rfl (by kernel_rfl) (by kernel_rfl) (by kernel_rfl) (fun _ _ _ h => h) (Or.inl ⟨by rfl, ?hy5032⟩) (by trivial) ?rest5032
              case hy5032 => (intro W hSw; go_simp; try with_reducible rfl)
              try simp only [Act.put, List.setIfInBounds_toArray, List.set_cons_zero, List.set_cons_succ]
              refine held_one (i := 7) (o := ⟨none, _, _, _, _, _⟩) rfl (by kernel_rfl) (by rfl) (fun K hK => ?_)
              go_simp
              refine hK.out _ _ (by trivial) (fun hHeld => ?_)
              clear hK K
              try simp only [Act.put, List.setIfInBounds_toArray, List.set_cons_zero, List.set_cons_succ]
              refine wpAnyH_done (by kernel_rfl) ?_ _
              refine NoPanic.normal ?_
              clear cxb
              have hMX := hMb.app_ov (by omega) hgB hsB hws ((Kept.refl [] xb).alloc (.cells #[.int .i64 (tb : Int)] 3)) (tb : Int) (by dsimp only; rw [HOL.out]; exact hownb) hkzb hatb
              have HM3 : Hid (MR (wb.setCell ⟨s, 12, none⟩ (.slice Ab (j + 1) cb)) w g s Bz { T with bs := bs ++ [(ta : Int)], ov := ov ++ [(tb : Int)] } (.slice Aa (j + 1) ca) (.slice Ab (j + 1) cb) (.slice none 0 0)) := hide hMX
              have hkx : Kept [rb] wq (xb.alloc (.cells #[.int .i64 (tb : Int)] 3)) := hkdb.alloc _
              have hks9 : Kept [s] wb (wb.setCell ⟨s, 12, none⟩ (.slice Ab (j + 1) cb)) := (Kept.refl [s] wb).set_ (b := s) (.inl (by simp)) 12 _
              have HR3 : Hid (Blk (wb.setCell ⟨s, 12, none⟩ (.slice Ab (j + 1) cb)) rb 98 #[.slice N n c, .int .i64 ((10 + 2 * j + 1 + 1 : Nat) : Int)]) := hide (hks9.blk (hkzb.blk (Blk.alloc hrb _) (fun hm => by have := (hizb rb hm).1; omega)) (by simp; omega))
              have HQ3 := hide (hks9.blk (hkzb.blk (hkx.blk HQ2.out hcr) (fun hm => by have := (hizb cq hm).1; omega)) hcs)
              clear hMX hkx hks9 hkdb hMb hOb cwb hownb hkzb hatb hizb hSb y4b y5b hrb hkb hHeld c12
              have HSN : Hid ((bs ++ [(ta : Int)]).length = j + 1 ∧ (ov ++ [(tb : Int)]).length = j + 1 ∧ slotsOk (bs ++ [(ta : Int)]) ∧ slotsOk (ov ++ [(tb : Int)])) := hide ⟨by rw [List.length_append, HBL.out]; rfl, by rw [List.length_append, HOL.out]; rfl, slotsOk_app HSb.out hta, slotsOk_app HSo.out htb⟩
              go_wp2
              go_roundw
              case rel => exact ⟨j + 1, _, _, _, _, by omega, by go_num, HM3, HSN, HR3, HQ3⟩
              case measure => simp [intOf]; omega
            · go_simp
              refine hK _ _ trivial ?_
              clear hK K
              try simp only [Act.put, List.setIfInBounds_toArray, List.set_cons_zero, List.set_cons_succ]
              refine held_one (i := 1) (o := ⟨some 69, _, _, _, _, _⟩) rfl (by kernel_rfl) (by rfl) (fun K hK => ?_)
              go_simp
              refine hK.out _ _ (by trivial) (fun hHeld => ?_)
              clear hK K
              try simp only [Act.put, List.setIfInBounds_toArray, List.set_cons_zero, List.set_cons_succ]
              refine held_one (i := 5) (o := ⟨some 73, _, _, _, _, _⟩) rfl (by kernel_rfl) (by rfl) (fun K hK => ?_)
              refine wp_append_vals (o := ⟨some 73, _, _, _, _, _⟩) (.tmp 69) (.tmp 72) 25 rfl Bz 3 (.int .i64 0) 1 8 Try.underlying25 base.int_info rfl (by omega) (.slice A6 j c6) j (ov.map I) (by go_simp) (own_keep hOb ((Kept.refl [] xb).alloc _) (by simp)) [] _ 1 1 ([(tb : Int)].map I) (by go_simp) rfl (base.vals_one _ [] _ _ (by simp)) (oneCell_I [(tb : Int)]) (by simp only [maxLen]; omega) (by omega) (by have := hMb.size; simp; omega) ?_
              intro vb wb hownb hkzb hatb
              have hizb := own_blk hOb
              have hSb := hkzb.blk ((hMb.kept_ (S := []) (by simp) ((Kept.refl [] xb).alloc (.cells #[.int .i64 (tb : Int)] 3))).rec_) (fun hm => by have := (hizb s hm).1; omega)
              have y4b := hSb.cell 12
              have y5b := hSb.frozen 12
              obtain ⟨Ab, cb, rfl, _⟩ := own_read hownb
              refine hK.out _ _ (by trivial) (fun hHeld => ?_)
              clear hK K
              try simp only [Act.put, List.setIfInBounds_toArray, List.set_cons_zero, List.set_cons_succ]
              refine wpAnyH_take (i := 6) (oi := ⟨some 74, _, _, _, _, _⟩) (v := ?v5033) rfl (by kernel_rfl) (by kernel_rfl) (by kernel_rfl) (fun _ _ _ h => h) (Or.inl ⟨by rfl, ?hy5033⟩) (by trivial) ?rest5033
              case hy5033 => (intro W hSw; go_simp; try with_reducible rfl)
              try simp only [Act.put, List.setIfInBounds_toArray, List.set_cons_zero, List.set_cons_succ]
              refine held_one (i := 7) (o := ⟨none, _, _, _, _, _⟩) rfl (by kernel_rfl) (by rfl) (fun K hK => ?_)
              go_simp
              refine hK.out _ _ (by trivial) (fun hHeld => ?_)
              clear hK K
              try simp only [Act.put, List.setIfInBounds_toArray, List.set_cons_zero, List.set_cons_succ]
              refine wpAnyH_done (by kernel_rfl) ?_ _
              refine NoPanic.normal ?_
              clear cxb
              have hMX := hMb.app_ov (by omega) hgB hsB hws ((Kept.refl [] xb).alloc (.cells #[.int .i64 (tb : Int)] 3)) (tb : Int) (by dsimp only; rw [HOL.out]; exact hownb) hkzb hatb
              have HM3 : Hid (MR (wb.setCell ⟨s, 12, none⟩ (.slice Ab (j + 1) cb)) w g s Bz { T with bs := bs ++ [(ta : Int)], ov := ov ++ [(tb : Int)] } (.slice Aa (j + 1) ca) (.slice Ab (j + 1) cb) (.slice none 0 0)) := hide hMX
              have hkx : Kept [rb] wq (xb.alloc (.cells #[.int .i64 (tb : Int)] 3)) := hkdb.alloc _
              have hks9 : Kept [s] wb (wb.setCell ⟨s, 12, none⟩ (.slice Ab (j + 1) cb)) := (Kept.refl [s] wb).set_ (b := s) (.inl (by simp)) 12 _
              have HR3 : Hid (Blk (wb.setCell ⟨s, 12, none⟩ (.slice Ab (j + 1) cb)) rb 98 #[.slice N n c, .int .i64 ((10 + 2 * j + 1 + 1 : Nat) : Int)]) := hide (hks9.blk (hkzb.blk (Blk.alloc hrb _) (fun hm => by have := (hizb rb hm).1; omega)) (by simp; omega))
              have HQ3 := hide (hks9.blk (hkzb.blk (hkx.blk HQ2.out hcr) (fun hm => by have := (hizb cq hm).1; omega)) hcs)
              clear hMX hkx hks9 hkdb hMb hOb cwb hownb hkzb hatb hizb hSb y4b y5b hrb hkb hHeld c12
              have HSN : Hid ((bs ++ [(ta : Int)]).length = j + 1 ∧ (ov ++ [(tb : Int)]).length = j + 1 ∧ slotsOk (bs ++ [(ta : Int)]) ∧ slotsOk (ov ++ [(tb : Int)])) := hide ⟨by rw [List.length_append, HBL.out]; rfl, by rw [List.length_append, HOL.out]; rfl, slotsOk_app HSb.out hta, slotsOk_app HSo.out htb⟩
              go_wp2
              go_roundw
              case rel => exact ⟨j + 1, _, _, _, _, by omega, by go_num, HM3, HSN, HR3, HQ3⟩
              case measure => simp [intOf]; omega
    · obtain rfl : j = Y := by omega
      obtain ⟨hb1, hb2, hb3, hb4⟩ := HS.out
      have HBL := hide hb1
      have HOL := hide hb2
      have HSb := hide hb3
      have HSo := hide hb4
      have HM8 : Hid (MR wp w g s Bz { T with bs := bs, ov := ov, us := [] } v u (.slice none 0 0)) := hide (by have h := HM1.out; have e := HTu.out.1; obtain ⟨_, _, _, _, _, _, _, _, _, _, _, _, _, tu⟩ := T; simp only at e; subst e; exact h)
      have HR8 : Hid (Blk wp rb 98 #[.slice N n c, .int .i64 ((10 + 2 * D.y + 2 * 0 : Nat) : Int)]) := hide (by rw [HY.out]; exact HR1.out)
      clear hb1 hb2 hb3 hb4 HS HM1 HR1 hy1
      obtain ⟨m, hm⟩ : ∃ m, D.n = m := ⟨_, rfl⟩
      have HMN := hide hm
      rw [hm] at hn32 hn8 hy17
      clear hm
      go_wp2
      go_loopw [11] (fun i wr => ∃ (j : Nat) (us : List Us) (z : Value), j ≤ m ∧ i = .int .i64 j ∧ Hid (MR wr w g s Bz { T with bs := bs, ov := ov, us := us } v u z) ∧ Hid (us.length = j ∧ preOk us) ∧ Hid (Blk wr rb 98 #[.slice N n c, .int .i64 ((10 + 2 * D.y + 2 * j : Nat) : Int)]) ∧ Hid (Blk wr cq 31 #[.int .i64 D.b, .int .i64 (D.n : Int), .int .i64 D.z])) (fun i wr => m - (intOf i).toNat)
      case atStart => exact ⟨0, [], _, by omega, rfl, HM8, hide ⟨rfl, by simp [preOk]⟩, HR8, HQ1⟩
      case round =>
        rename_i j0
        obtain ⟨j, us, z9, hj, rfl, HM, HS, HR, HQ⟩ := hrel
        clear HM8 HR8 HQ1
        obtain ⟨d0, d1, d2⟩ : wr.cell? ⟨cq, 0, none⟩ = some (.int .i64 D.b) ∧ wr.cell? ⟨cq, 1, none⟩ = some (.int .i64 (m : Int)) ∧ wr.cell? ⟨cq, 2, none⟩ = some (.int .i64 D.z) := by rw [← HMN.out]; exact ⟨HQ.out.cell 0, HQ.out.cell 1, HQ.out.cell 2⟩
        by_cases hlt : j < m
        · have hlti : (j : Int) < (m : Int) := by omega
          obtain ⟨A2, cc, rfl, _⟩ := own_read HM.out.us
          dsimp only at HM
          rw [HS.out.1] at HM
          have c13 : (World.drew wr).cell? ⟨s, 13, none⟩ = some (.slice A2 j cc) := HM.out.c.2.2
          have hk84 : 10 + 2 * D.y + 2 * j ≤ 900 := by have := HD.out.bd; omega
          go_wp2_with fail
          refine wp_region_noPanic ?_
          refine wp_region_held_drew (S := fun _ => True) (by kernel_rfl) (by trivial) (fun hHeld => ?_)
          refine wpAnyH_take (i := 0) (oi := ⟨some 81, _, _, _, _, _⟩) (v := ?v5034) rfl (by kernel_rfl) (by kernel_rfl) (by kernel_rfl) (fun _ _ _ h => h) (Or.inl ⟨by rfl, ?hy5034⟩) (by trivial) ?rest5034
          case hy5034 => (intro W hSw; go_simp; try with_reducible rfl)
          try simp only [Act.put, List.setIfInBounds_toArray, List.set_cons_zero, List.set_cons_succ]
          refine wpAnyH_take (i := 2) (oi := ⟨some 83, _, _, _, _, _⟩) (v := ?v5035) rfl (by kernel_rfl) (by kernel_rfl) (by kernel_rfl) (fun _ _ _ h => h) (Or.inl ⟨by rfl, ?hy5035⟩) (by trivial) ?rest5035
          case hy5035 => (intro W hSw; go_simp; try with_reducible rfl)
          try simp only [Act.put, List.setIfInBounds_toArray, List.set_cons_zero, List.set_cons_succ]
          refine wpAnyH_take (i := 5) (oi := ⟨some 86, _, _, _, _, _⟩) (v := ?v5036) rfl (by kernel_rfl) (by kernel_rfl) (by kernel_rfl) (fun _ _ _ h => h) (Or.inl ⟨by rfl, ?hy5036⟩) (by trivial) ?rest5036
          case hy5036 => (intro W hSw; go_simp; try with_reducible rfl)
          try simp only [Act.put, List.setIfInBounds_toArray, List.set_cons_zero, List.set_cons_succ]
          refine next_two (i := 1) (j := 3) (o := ⟨some 82, _, _, _, _, _⟩) (o' := ⟨some 84, _, _, _, _, _⟩) (by kernel_rfl) rfl (by rfl) rfl (by rfl) (fun K hK => ?_) (fun K hK => ?_)
          · go_simp
            refine hK _ _ trivial ?_
            clear hK K
            try simp only [Act.put, List.setIfInBounds_toArray, List.set_cons_zero, List.set_cons_succ]
            refine held_one (i := 3) (o := ⟨some 84, _, _, _, _, _⟩) rfl (by kernel_rfl) (by rfl) (fun K hK => ?_)
            go_simp
            refine (next_rb rb N l n c (10 + 2 * D.y + 2 * j) 2 w _ HV.out HL.out (HM.out.kept.drewN 1) hwrb (HR.out.drewN 1) (by omega) (by omega) (by omega)).mono ?_
            rintro e xa ⟨ta, rfl, hta, hra, hka⟩
            have hkda : Kept [rb] wr xa := ((Kept.refl [rb] wr).drewN 1).trans hka (by simp)
            have hMa := HM.out.kept_ HPS.out hkda
            have cwa := hMa.c.2.2
            have Ga : IntKind.i64.wrap (2 * (ta : Int)) = 2 * ta := IntWalk.i64_in _ (by omega)
            refine hK.out _ _ (by trivial) (fun hHeld => ?_)
            clear hK K
            try simp only [Act.put, List.setIfInBounds_toArray, List.set_cons_zero, List.set_cons_succ]
            refine wpAnyH_take (i := 4) (oi := ⟨some 85, _, _, _, _, _⟩) (v := ?v5037) rfl (by kernel_rfl) (by kernel_rfl) (by kernel_rfl) (fun _ _ _ h => h) (Or.inl ⟨by rfl, ?hy5037⟩) (by trivial) ?rest5037
            case hy5037 => (intro W hSw; go_simp; try with_reducible rfl)
            try simp only [Act.put, List.setIfInBounds_toArray, List.set_cons_zero, List.set_cons_succ]
            refine held_one (i := 6) (o := ⟨some 87, _, _, _, _, _⟩) rfl (by kernel_rfl) (by rfl) (fun K hK => ?_)
            go_simp
            refine (next_rb rb N l n c (10 + 2 * D.y + 2 * j + 1) 2147483648 w _ HV.out HL.out hMa.kept hwrb hra (by omega) (by omega) (by omega)).mono ?_
            rintro e xb ⟨tb, rfl, htb, hrb2, hkb⟩
            have hkdb : Kept [rb] wr xb := hkda.trans hkb (by simp)
            have hMb := hMa.kept_ HPS.out hkb
            have cwb := hMb.c.2.2
            have cxb : (xb.alloc (.cells #[.int .i64 (2 * (ta : Int)), .int .i64 (tb : Int)] 79)).cell? ⟨s, 13, none⟩ = some (.slice A2 j cc) := ((Kept.refl [] xb).alloc _).cell cwb (by simp)
            have hOb : xb.ownsRow Bz 79 2 (.slice A2 j cc) j (usVals us) := by have h := hMb.us; dsimp only at h; rw [HS.out.1] at h; exact h
            refine hK.out _ _ (by trivial) (fun hHeld => ?_)
            clear hK K
            try simp only [Act.put, List.setIfInBounds_toArray, List.set_cons_zero, List.set_cons_succ]
            refine wpAnyH_take (i := 7) (oi := ⟨some 88, _, _, _, _, _⟩) (v := ?v5038) rfl (by kernel_rfl) (by kernel_rfl) (by kernel_rfl) (fun _ _ _ h => h) (Or.inl ⟨by rfl, ?hy5038⟩) (by trivial) ?rest5038
            case hy5038 => (intro W hSw; go_simp; try with_reducible rfl)
            try simp only [Act.put, List.setIfInBounds_toArray, List.set_cons_zero, List.set_cons_succ]
            refine held_one (i := 8) (o := ⟨some 89, _, _, _, _, _⟩) rfl (by kernel_rfl) (by rfl) (fun K hK => ?_)
            go_simp
            refine hK.out _ _ (by trivial) (fun hHeld => ?_)
            clear hK K
            try simp only [Act.put, List.setIfInBounds_toArray, List.set_cons_zero, List.set_cons_succ]
            refine held_one (i := 9) (o := ⟨some 90, _, _, _, _, _⟩) rfl (by kernel_rfl) (by rfl) (fun K hK => ?_)
            refine wp_append_vals (o := ⟨some 90, _, _, _, _, _⟩) (.tmp 82) (.tmp 89) 26 rfl Bz 79 Us.zero.val 2 16 Try.underlying26 use_info rfl (by omega) (.slice A2 j cc) j (usVals us) (by go_simp) (own_keep hOb ((Kept.refl [] xb).alloc _) (by simp)) [] _ 1 1 (Us.vals ⟨2 * (ta : Int), (tb : Int)⟩) (by go_simp) rfl (Vals.new _ [] _ _ (by simp)) (oneCell_Us ⟨2 * (ta : Int), (tb : Int)⟩) (by simp only [maxLen]; omega) (by omega) (by have := hMb.size; simp; omega) ?_
            intro v1 w10 hown1 hkz hat1
            have hiz := own_blk hOb
            have hS10 := hkz.blk ((hMb.kept_ (S := []) (by simp) ((Kept.refl [] xb).alloc (.cells #[.int .i64 (2 * (ta : Int)), .int .i64 (tb : Int)] 79))).rec_) (fun hm => by have := (hiz s hm).1; omega)
            have y4 := hS10.cell 13
            have y5 := hS10.frozen 13
            obtain ⟨A3, c3, rfl, _⟩ := own_read hown1
            refine hK.out _ _ (by trivial) (fun hHeld => ?_)
            clear hK K
            try simp only [Act.put, List.setIfInBounds_toArray, List.set_cons_zero, List.set_cons_succ]
            refine wpAnyH_take (i := 10) (oi := ⟨some 91, _, _, _, _, _⟩) (v := ?v5039) rfl (by kernel_rfl) (by kernel_rfl) (by kernel_rfl) (fun _ _ _ h => h) (Or.inl ⟨by rfl, ?hy5039⟩) (by trivial) ?rest5039
            case hy5039 => (intro W hSw; go_simp; try with_reducible rfl)
            try simp only [Act.put, List.setIfInBounds_toArray, List.set_cons_zero, List.set_cons_succ]
            refine held_one (i := 11) (o := ⟨none, _, _, _, _, _⟩) rfl (by kernel_rfl) (by rfl) (fun K hK => ?_)
            go_simp
            refine hK.out _ _ (by trivial) (fun hHeld => ?_)
            clear hK K
            try simp only [Act.put, List.setIfInBounds_toArray, List.set_cons_zero, List.set_cons_succ]
            refine wpAnyH_done (by kernel_rfl) ?_ _
            refine NoPanic.normal ?_
            clear cxb
            have hMX := hMb.app_us (by omega) hgB hsB hws ((Kept.refl [] xb).alloc (.cells #[.int .i64 (2 * (ta : Int)), .int .i64 (tb : Int)] 79)) ⟨2 * (ta : Int), (tb : Int)⟩ (by dsimp only; rw [HS.out.1]; exact hown1) hkz hat1
            have HMX : Hid (MR (w10.setCell ⟨s, 13, none⟩ (.slice A3 (j + 1) c3)) w g s Bz { T with bs := bs, ov := ov, us := us ++ [⟨2 * (ta : Int), (tb : Int)⟩] } v u (.slice A3 (j + 1) c3)) := hide hMX
            have hkx : Kept [rb] wr (xb.alloc (.cells #[.int .i64 (2 * (ta : Int)), .int .i64 (tb : Int)] 79)) := hkdb.alloc _
            have hks9 : Kept [s] w10 (w10.setCell ⟨s, 13, none⟩ (.slice A3 (j + 1) c3)) := (Kept.refl [s] w10).set_ (b := s) (.inl (by simp)) 13 _
            have HRX : Hid (Blk (w10.setCell ⟨s, 13, none⟩ (.slice A3 (j + 1) c3)) rb 98 #[.slice N n c, .int .i64 ((10 + 2 * D.y + 2 * (j + 1) : Nat) : Int)]) := hide (by
              have h := hks9.blk (hkz.blk (Blk.alloc hrb2 (.cells #[.int .i64 (2 * (ta : Int)), .int .i64 (tb : Int)] 79)) (fun hm => by have := (hiz rb hm).1; omega)) (by simp; omega)
              rw [show 10 + 2 * D.y + 2 * (j + 1) = 10 + 2 * D.y + 2 * j + 1 + 1 by omega]
              exact h)
            have HQX := hide (hks9.blk (hkz.blk (hkx.blk HQ.out hcr) (fun hm => by have := (hiz cq hm).1; omega)) hcs)
            have HSX : Hid ((us ++ [(⟨2 * (ta : Int), (tb : Int)⟩ : Us)]).length = j + 1 ∧ preOk (us ++ [⟨2 * (ta : Int), (tb : Int)⟩])) := hide ⟨by rw [List.length_append, HS.out.1]; rfl, preOk_app HS.out.2 ⟨by dsimp only; omega, by dsimp only; omega⟩⟩
            clear hMX hkx hks9 hkda hkdb hMa hMb hOb cwa cwb hown1 hkz hat1 hiz hS10 y4 y5 hra hrb2 hka hkb hHeld c13
            go_wp2
            go_roundw
            case rel => exact ⟨j + 1, _, _, by omega, by go_num, HMX, HSX, HRX, HQX⟩
            case measure => simp [intOf]; omega
          · go_simp
            refine (next_rb rb N l n c (10 + 2 * D.y + 2 * j) 2 w _ HV.out HL.out (HM.out.kept.drewN 1) hwrb (HR.out.drewN 1) (by omega) (by omega) (by omega)).mono ?_
            rintro e xa ⟨ta, rfl, hta, hra, hka⟩
            have hkda : Kept [rb] wr xa := ((Kept.refl [rb] wr).drewN 1).trans hka (by simp)
            have hMa := HM.out.kept_ HPS.out hkda
            have cwa := hMa.c.2.2
            have Ga : IntKind.i64.wrap (2 * (ta : Int)) = 2 * ta := IntWalk.i64_in _ (by omega)
            refine hK _ _ trivial ?_
            clear hK K
            try simp only [Act.put, List.setIfInBounds_toArray, List.set_cons_zero, List.set_cons_succ]
            refine wpAnyH_take (i := 4) (oi := ⟨some 85, _, _, _, _, _⟩) (v := ?v5040) rfl (by kernel_rfl) (by kernel_rfl) (by kernel_rfl) (fun _ _ _ h => h) (Or.inl ⟨by rfl, ?hy5040⟩) (by trivial) ?rest5040
            case hy5040 => (intro W hSw; go_simp; try with_reducible rfl)
            try simp only [Act.put, List.setIfInBounds_toArray, List.set_cons_zero, List.set_cons_succ]
            refine next_two (i := 1) (j := 6) (o := ⟨some 82, _, _, _, _, _⟩) (o' := ⟨some 87, _, _, _, _, _⟩) (by kernel_rfl) rfl (by rfl) rfl (by rfl) (fun K hK => ?_) (fun K hK => ?_)
            · go_simp
              refine hK _ _ trivial ?_
              clear hK K
              try simp only [Act.put, List.setIfInBounds_toArray, List.set_cons_zero, List.set_cons_succ]
              refine held_one (i := 6) (o := ⟨some 87, _, _, _, _, _⟩) rfl (by kernel_rfl) (by rfl) (fun K hK => ?_)
              go_simp
              refine (next_rb rb N l n c (10 + 2 * D.y + 2 * j + 1) 2147483648 w _ HV.out HL.out hMa.kept hwrb hra (by omega) (by omega) (by omega)).mono ?_
              rintro e xb ⟨tb, rfl, htb, hrb2, hkb⟩
              have hkdb : Kept [rb] wr xb := hkda.trans hkb (by simp)
              have hMb := hMa.kept_ HPS.out hkb
              have cwb := hMb.c.2.2
              have cxb : (xb.alloc (.cells #[.int .i64 (2 * (ta : Int)), .int .i64 (tb : Int)] 79)).cell? ⟨s, 13, none⟩ = some (.slice A2 j cc) := ((Kept.refl [] xb).alloc _).cell cwb (by simp)
              have hOb : xb.ownsRow Bz 79 2 (.slice A2 j cc) j (usVals us) := by have h := hMb.us; dsimp only at h; rw [HS.out.1] at h; exact h
              refine hK.out _ _ (by trivial) (fun hHeld => ?_)
              clear hK K
              try simp only [Act.put, List.setIfInBounds_toArray, List.set_cons_zero, List.set_cons_succ]
              refine wpAnyH_take (i := 7) (oi := ⟨some 88, _, _, _, _, _⟩) (v := ?v5041) rfl (by kernel_rfl) (by kernel_rfl) (by kernel_rfl) (fun _ _ _ h => h) (Or.inl ⟨by rfl, ?hy5041⟩) (by trivial) ?rest5041
              case hy5041 => (intro W hSw; go_simp; try with_reducible rfl)
              try simp only [Act.put, List.setIfInBounds_toArray, List.set_cons_zero, List.set_cons_succ]
              refine held_one (i := 8) (o := ⟨some 89, _, _, _, _, _⟩) rfl (by kernel_rfl) (by rfl) (fun K hK => ?_)
              go_simp
              refine hK.out _ _ (by trivial) (fun hHeld => ?_)
              clear hK K
              try simp only [Act.put, List.setIfInBounds_toArray, List.set_cons_zero, List.set_cons_succ]
              refine held_one (i := 9) (o := ⟨some 90, _, _, _, _, _⟩) rfl (by kernel_rfl) (by rfl) (fun K hK => ?_)
              refine wp_append_vals (o := ⟨some 90, _, _, _, _, _⟩) (.tmp 82) (.tmp 89) 26 rfl Bz 79 Us.zero.val 2 16 Try.underlying26 use_info rfl (by omega) (.slice A2 j cc) j (usVals us) (by go_simp) (own_keep hOb ((Kept.refl [] xb).alloc _) (by simp)) [] _ 1 1 (Us.vals ⟨2 * (ta : Int), (tb : Int)⟩) (by go_simp) rfl (Vals.new _ [] _ _ (by simp)) (oneCell_Us ⟨2 * (ta : Int), (tb : Int)⟩) (by simp only [maxLen]; omega) (by omega) (by have := hMb.size; simp; omega) ?_
              intro v1 w10 hown1 hkz hat1
              have hiz := own_blk hOb
              have hS10 := hkz.blk ((hMb.kept_ (S := []) (by simp) ((Kept.refl [] xb).alloc (.cells #[.int .i64 (2 * (ta : Int)), .int .i64 (tb : Int)] 79))).rec_) (fun hm => by have := (hiz s hm).1; omega)
              have y4 := hS10.cell 13
              have y5 := hS10.frozen 13
              obtain ⟨A3, c3, rfl, _⟩ := own_read hown1
              refine hK.out _ _ (by trivial) (fun hHeld => ?_)
              clear hK K
              try simp only [Act.put, List.setIfInBounds_toArray, List.set_cons_zero, List.set_cons_succ]
              refine wpAnyH_take (i := 10) (oi := ⟨some 91, _, _, _, _, _⟩) (v := ?v5042) rfl (by kernel_rfl) (by kernel_rfl) (by kernel_rfl) (fun _ _ _ h => h) (Or.inl ⟨by rfl, ?hy5042⟩) (by trivial) ?rest5042
              case hy5042 => (intro W hSw; go_simp; try with_reducible rfl)
              try simp only [Act.put, List.setIfInBounds_toArray, List.set_cons_zero, List.set_cons_succ]
              refine held_one (i := 11) (o := ⟨none, _, _, _, _, _⟩) rfl (by kernel_rfl) (by rfl) (fun K hK => ?_)
              go_simp
              refine hK.out _ _ (by trivial) (fun hHeld => ?_)
              clear hK K
              try simp only [Act.put, List.setIfInBounds_toArray, List.set_cons_zero, List.set_cons_succ]
              refine wpAnyH_done (by kernel_rfl) ?_ _
              refine NoPanic.normal ?_
              clear cxb
              have hMX := hMb.app_us (by omega) hgB hsB hws ((Kept.refl [] xb).alloc (.cells #[.int .i64 (2 * (ta : Int)), .int .i64 (tb : Int)] 79)) ⟨2 * (ta : Int), (tb : Int)⟩ (by dsimp only; rw [HS.out.1]; exact hown1) hkz hat1
              have HMX : Hid (MR (w10.setCell ⟨s, 13, none⟩ (.slice A3 (j + 1) c3)) w g s Bz { T with bs := bs, ov := ov, us := us ++ [⟨2 * (ta : Int), (tb : Int)⟩] } v u (.slice A3 (j + 1) c3)) := hide hMX
              have hkx : Kept [rb] wr (xb.alloc (.cells #[.int .i64 (2 * (ta : Int)), .int .i64 (tb : Int)] 79)) := hkdb.alloc _
              have hks9 : Kept [s] w10 (w10.setCell ⟨s, 13, none⟩ (.slice A3 (j + 1) c3)) := (Kept.refl [s] w10).set_ (b := s) (.inl (by simp)) 13 _
              have HRX : Hid (Blk (w10.setCell ⟨s, 13, none⟩ (.slice A3 (j + 1) c3)) rb 98 #[.slice N n c, .int .i64 ((10 + 2 * D.y + 2 * (j + 1) : Nat) : Int)]) := hide (by
                have h := hks9.blk (hkz.blk (Blk.alloc hrb2 (.cells #[.int .i64 (2 * (ta : Int)), .int .i64 (tb : Int)] 79)) (fun hm => by have := (hiz rb hm).1; omega)) (by simp; omega)
                rw [show 10 + 2 * D.y + 2 * (j + 1) = 10 + 2 * D.y + 2 * j + 1 + 1 by omega]
                exact h)
              have HQX := hide (hks9.blk (hkz.blk (hkx.blk HQ.out hcr) (fun hm => by have := (hiz cq hm).1; omega)) hcs)
              have HSX : Hid ((us ++ [(⟨2 * (ta : Int), (tb : Int)⟩ : Us)]).length = j + 1 ∧ preOk (us ++ [⟨2 * (ta : Int), (tb : Int)⟩])) := hide ⟨by rw [List.length_append, HS.out.1]; rfl, preOk_app HS.out.2 ⟨by dsimp only; omega, by dsimp only; omega⟩⟩
              clear hMX hkx hks9 hkda hkdb hMa hMb hOb cwa cwb hown1 hkz hat1 hiz hS10 y4 y5 hra hrb2 hka hkb hHeld c13
              go_wp2
              go_roundw
              case rel => exact ⟨j + 1, _, _, by omega, by go_num, HMX, HSX, HRX, HQX⟩
              case measure => simp [intOf]; omega
            · go_simp
              refine (next_rb rb N l n c (10 + 2 * D.y + 2 * j + 1) 2147483648 w _ HV.out HL.out hMa.kept hwrb hra (by omega) (by omega) (by omega)).mono ?_
              rintro e xb ⟨tb, rfl, htb, hrb2, hkb⟩
              have hkdb : Kept [rb] wr xb := hkda.trans hkb (by simp)
              have hMb := hMa.kept_ HPS.out hkb
              have cwb := hMb.c.2.2
              have cxb : (xb.alloc (.cells #[.int .i64 (2 * (ta : Int)), .int .i64 (tb : Int)] 79)).cell? ⟨s, 13, none⟩ = some (.slice A2 j cc) := ((Kept.refl [] xb).alloc _).cell cwb (by simp)
              have hOb : xb.ownsRow Bz 79 2 (.slice A2 j cc) j (usVals us) := by have h := hMb.us; dsimp only at h; rw [HS.out.1] at h; exact h
              refine hK _ _ trivial ?_
              clear hK K
              try simp only [Act.put, List.setIfInBounds_toArray, List.set_cons_zero, List.set_cons_succ]
              refine wpAnyH_take (i := 7) (oi := ⟨some 88, _, _, _, _, _⟩) (v := ?v5043) rfl (by kernel_rfl) (by kernel_rfl) (by kernel_rfl) (fun _ _ _ h => h) (Or.inl ⟨by rfl, ?hy5043⟩) (by trivial) ?rest5043
              case hy5043 => (intro W hSw; go_simp; try with_reducible rfl)
              try simp only [Act.put, List.setIfInBounds_toArray, List.set_cons_zero, List.set_cons_succ]
              refine next_two (i := 1) (j := 8) (o := ⟨some 82, _, _, _, _, _⟩) (o' := ⟨some 89, _, _, _, _, _⟩) (by kernel_rfl) rfl (by rfl) rfl (by rfl) (fun K hK => ?_) (fun K hK => ?_)
              · go_simp
                refine hK _ _ trivial ?_
                clear hK K
                try simp only [Act.put, List.setIfInBounds_toArray, List.set_cons_zero, List.set_cons_succ]
                refine held_one (i := 8) (o := ⟨some 89, _, _, _, _, _⟩) rfl (by kernel_rfl) (by rfl) (fun K hK => ?_)
                go_simp
                refine hK.out _ _ (by trivial) (fun hHeld => ?_)
                clear hK K
                try simp only [Act.put, List.setIfInBounds_toArray, List.set_cons_zero, List.set_cons_succ]
                refine held_one (i := 9) (o := ⟨some 90, _, _, _, _, _⟩) rfl (by kernel_rfl) (by rfl) (fun K hK => ?_)
                refine wp_append_vals (o := ⟨some 90, _, _, _, _, _⟩) (.tmp 82) (.tmp 89) 26 rfl Bz 79 Us.zero.val 2 16 Try.underlying26 use_info rfl (by omega) (.slice A2 j cc) j (usVals us) (by go_simp) (own_keep hOb ((Kept.refl [] xb).alloc _) (by simp)) [] _ 1 1 (Us.vals ⟨2 * (ta : Int), (tb : Int)⟩) (by go_simp) rfl (Vals.new _ [] _ _ (by simp)) (oneCell_Us ⟨2 * (ta : Int), (tb : Int)⟩) (by simp only [maxLen]; omega) (by omega) (by have := hMb.size; simp; omega) ?_
                intro v1 w10 hown1 hkz hat1
                have hiz := own_blk hOb
                have hS10 := hkz.blk ((hMb.kept_ (S := []) (by simp) ((Kept.refl [] xb).alloc (.cells #[.int .i64 (2 * (ta : Int)), .int .i64 (tb : Int)] 79))).rec_) (fun hm => by have := (hiz s hm).1; omega)
                have y4 := hS10.cell 13
                have y5 := hS10.frozen 13
                obtain ⟨A3, c3, rfl, _⟩ := own_read hown1
                refine hK.out _ _ (by trivial) (fun hHeld => ?_)
                clear hK K
                try simp only [Act.put, List.setIfInBounds_toArray, List.set_cons_zero, List.set_cons_succ]
                refine wpAnyH_take (i := 10) (oi := ⟨some 91, _, _, _, _, _⟩) (v := ?v5044) rfl (by kernel_rfl) (by kernel_rfl) (by kernel_rfl) (fun _ _ _ h => h) (Or.inl ⟨by rfl, ?hy5044⟩) (by trivial) ?rest5044
                case hy5044 => (intro W hSw; go_simp; try with_reducible rfl)
                try simp only [Act.put, List.setIfInBounds_toArray, List.set_cons_zero, List.set_cons_succ]
                refine held_one (i := 11) (o := ⟨none, _, _, _, _, _⟩) rfl (by kernel_rfl) (by rfl) (fun K hK => ?_)
                go_simp
                refine hK.out _ _ (by trivial) (fun hHeld => ?_)
                clear hK K
                try simp only [Act.put, List.setIfInBounds_toArray, List.set_cons_zero, List.set_cons_succ]
                refine wpAnyH_done (by kernel_rfl) ?_ _
                refine NoPanic.normal ?_
                clear cxb
                have hMX := hMb.app_us (by omega) hgB hsB hws ((Kept.refl [] xb).alloc (.cells #[.int .i64 (2 * (ta : Int)), .int .i64 (tb : Int)] 79)) ⟨2 * (ta : Int), (tb : Int)⟩ (by dsimp only; rw [HS.out.1]; exact hown1) hkz hat1
                have HMX : Hid (MR (w10.setCell ⟨s, 13, none⟩ (.slice A3 (j + 1) c3)) w g s Bz { T with bs := bs, ov := ov, us := us ++ [⟨2 * (ta : Int), (tb : Int)⟩] } v u (.slice A3 (j + 1) c3)) := hide hMX
                have hkx : Kept [rb] wr (xb.alloc (.cells #[.int .i64 (2 * (ta : Int)), .int .i64 (tb : Int)] 79)) := hkdb.alloc _
                have hks9 : Kept [s] w10 (w10.setCell ⟨s, 13, none⟩ (.slice A3 (j + 1) c3)) := (Kept.refl [s] w10).set_ (b := s) (.inl (by simp)) 13 _
                have HRX : Hid (Blk (w10.setCell ⟨s, 13, none⟩ (.slice A3 (j + 1) c3)) rb 98 #[.slice N n c, .int .i64 ((10 + 2 * D.y + 2 * (j + 1) : Nat) : Int)]) := hide (by
                  have h := hks9.blk (hkz.blk (Blk.alloc hrb2 (.cells #[.int .i64 (2 * (ta : Int)), .int .i64 (tb : Int)] 79)) (fun hm => by have := (hiz rb hm).1; omega)) (by simp; omega)
                  rw [show 10 + 2 * D.y + 2 * (j + 1) = 10 + 2 * D.y + 2 * j + 1 + 1 by omega]
                  exact h)
                have HQX := hide (hks9.blk (hkz.blk (hkx.blk HQ.out hcr) (fun hm => by have := (hiz cq hm).1; omega)) hcs)
                have HSX : Hid ((us ++ [(⟨2 * (ta : Int), (tb : Int)⟩ : Us)]).length = j + 1 ∧ preOk (us ++ [⟨2 * (ta : Int), (tb : Int)⟩])) := hide ⟨by rw [List.length_append, HS.out.1]; rfl, preOk_app HS.out.2 ⟨by dsimp only; omega, by dsimp only; omega⟩⟩
                clear hMX hkx hks9 hkda hkdb hMa hMb hOb cwa cwb hown1 hkz hat1 hiz hS10 y4 y5 hra hrb2 hka hkb hHeld c13
                go_wp2
                go_roundw
                case rel => exact ⟨j + 1, _, _, by omega, by go_num, HMX, HSX, HRX, HQX⟩
                case measure => simp [intOf]; omega
              · go_simp
                refine hK _ _ trivial ?_
                clear hK K
                try simp only [Act.put, List.setIfInBounds_toArray, List.set_cons_zero, List.set_cons_succ]
                refine held_one (i := 1) (o := ⟨some 82, _, _, _, _, _⟩) rfl (by kernel_rfl) (by rfl) (fun K hK => ?_)
                go_simp
                refine hK.out _ _ (by trivial) (fun hHeld => ?_)
                clear hK K
                try simp only [Act.put, List.setIfInBounds_toArray, List.set_cons_zero, List.set_cons_succ]
                refine held_one (i := 9) (o := ⟨some 90, _, _, _, _, _⟩) rfl (by kernel_rfl) (by rfl) (fun K hK => ?_)
                refine wp_append_vals (o := ⟨some 90, _, _, _, _, _⟩) (.tmp 82) (.tmp 89) 26 rfl Bz 79 Us.zero.val 2 16 Try.underlying26 use_info rfl (by omega) (.slice A2 j cc) j (usVals us) (by go_simp) (own_keep hOb ((Kept.refl [] xb).alloc _) (by simp)) [] _ 1 1 (Us.vals ⟨2 * (ta : Int), (tb : Int)⟩) (by go_simp) rfl (Vals.new _ [] _ _ (by simp)) (oneCell_Us ⟨2 * (ta : Int), (tb : Int)⟩) (by simp only [maxLen]; omega) (by omega) (by have := hMb.size; simp; omega) ?_
                intro v1 w10 hown1 hkz hat1
                have hiz := own_blk hOb
                have hS10 := hkz.blk ((hMb.kept_ (S := []) (by simp) ((Kept.refl [] xb).alloc (.cells #[.int .i64 (2 * (ta : Int)), .int .i64 (tb : Int)] 79))).rec_) (fun hm => by have := (hiz s hm).1; omega)
                have y4 := hS10.cell 13
                have y5 := hS10.frozen 13
                obtain ⟨A3, c3, rfl, _⟩ := own_read hown1
                refine hK.out _ _ (by trivial) (fun hHeld => ?_)
                clear hK K
                try simp only [Act.put, List.setIfInBounds_toArray, List.set_cons_zero, List.set_cons_succ]
                refine wpAnyH_take (i := 10) (oi := ⟨some 91, _, _, _, _, _⟩) (v := ?v5045) rfl (by kernel_rfl) (by kernel_rfl) (by kernel_rfl) (fun _ _ _ h => h) (Or.inl ⟨by rfl, ?hy5045⟩) (by trivial) ?rest5045
                case hy5045 => (intro W hSw; go_simp; try with_reducible rfl)
                try simp only [Act.put, List.setIfInBounds_toArray, List.set_cons_zero, List.set_cons_succ]
                refine held_one (i := 11) (o := ⟨none, _, _, _, _, _⟩) rfl (by kernel_rfl) (by rfl) (fun K hK => ?_)
                go_simp
                refine hK.out _ _ (by trivial) (fun hHeld => ?_)
                clear hK K
                try simp only [Act.put, List.setIfInBounds_toArray, List.set_cons_zero, List.set_cons_succ]
                refine wpAnyH_done (by kernel_rfl) ?_ _
                refine NoPanic.normal ?_
                clear cxb
                have hMX := hMb.app_us (by omega) hgB hsB hws ((Kept.refl [] xb).alloc (.cells #[.int .i64 (2 * (ta : Int)), .int .i64 (tb : Int)] 79)) ⟨2 * (ta : Int), (tb : Int)⟩ (by dsimp only; rw [HS.out.1]; exact hown1) hkz hat1
                have HMX : Hid (MR (w10.setCell ⟨s, 13, none⟩ (.slice A3 (j + 1) c3)) w g s Bz { T with bs := bs, ov := ov, us := us ++ [⟨2 * (ta : Int), (tb : Int)⟩] } v u (.slice A3 (j + 1) c3)) := hide hMX
                have hkx : Kept [rb] wr (xb.alloc (.cells #[.int .i64 (2 * (ta : Int)), .int .i64 (tb : Int)] 79)) := hkdb.alloc _
                have hks9 : Kept [s] w10 (w10.setCell ⟨s, 13, none⟩ (.slice A3 (j + 1) c3)) := (Kept.refl [s] w10).set_ (b := s) (.inl (by simp)) 13 _
                have HRX : Hid (Blk (w10.setCell ⟨s, 13, none⟩ (.slice A3 (j + 1) c3)) rb 98 #[.slice N n c, .int .i64 ((10 + 2 * D.y + 2 * (j + 1) : Nat) : Int)]) := hide (by
                  have h := hks9.blk (hkz.blk (Blk.alloc hrb2 (.cells #[.int .i64 (2 * (ta : Int)), .int .i64 (tb : Int)] 79)) (fun hm => by have := (hiz rb hm).1; omega)) (by simp; omega)
                  rw [show 10 + 2 * D.y + 2 * (j + 1) = 10 + 2 * D.y + 2 * j + 1 + 1 by omega]
                  exact h)
                have HQX := hide (hks9.blk (hkz.blk (hkx.blk HQ.out hcr) (fun hm => by have := (hiz cq hm).1; omega)) hcs)
                have HSX : Hid ((us ++ [(⟨2 * (ta : Int), (tb : Int)⟩ : Us)]).length = j + 1 ∧ preOk (us ++ [⟨2 * (ta : Int), (tb : Int)⟩])) := hide ⟨by rw [List.length_append, HS.out.1]; rfl, preOk_app HS.out.2 ⟨by dsimp only; omega, by dsimp only; omega⟩⟩
                clear hMX hkx hks9 hkda hkdb hMa hMb hOb cwa cwb hown1 hkz hat1 hiz hS10 y4 y5 hra hrb2 hka hkb hHeld c13
                go_wp2
                go_roundw
                case rel => exact ⟨j + 1, _, _, by omega, by go_num, HMX, HSX, HRX, HQX⟩
                case measure => simp [intOf]; omega
        · obtain rfl : j = m := by omega
          obtain ⟨hul, hup⟩ := HS.out
          obtain ⟨ux, hux⟩ : ∃ ux, us[y17]? = some ux := ⟨_, List.getElem?_eq_getElem (by omega)⟩
          obtain ⟨gz, cz, rfl, hgz, ecell, efr, hMZ⟩ := HM.out.open_ hgB hsB hwB y17 ux hux
          dsimp only at HM hMZ
          rw [hul] at HM hMZ
          have c13 : wr.cell? ⟨s, 13, none⟩ = some (.slice (some ⟨gz, 0, none⟩) j cz) := HM.out.c.2.2
          have c6 : wr.cell? ⟨s, 6, none⟩ = some (.int .i64 (y17 : Int)) := by rw [← HTs.out]; exact HM.out.rec_.cell 6
          obtain ⟨W9, hW9⟩ : ∃ W9, wr.setCell ⟨gz, y17 * 2, none⟩ (.int .i64 1) = W9 := ⟨_, rfl⟩
          rw [hW9] at hMZ
          obtain ⟨RR, hRR⟩ : ∃ RR : Rg, { T with bs := bs, ov := ov, us := us.set y17 ⟨1, ux.t⟩ } = RR := ⟨_, rfl⟩
          have hg := HGOOD.out
          have hGF : Good D { T with bs := bs, ov := ov, us := us.set y17 ⟨1, ux.t⟩ } := ⟨hg.g, hg.v, hg.m, hg.e, hg.q, hg.d, hg.s, hg.o, hg.l, hg.p, hg.k, HSb.out, by dsimp only; rw [HBL.out, HY.out], HSo.out, by dsimp only; rw [HOL.out, HY.out], by dsimp only; rw [List.length_set, hul, HMN.out], by
            have h := preOk_set hup hux
            rw [← HTs.out] at h
            exact h⟩
          rw [hRR] at hMZ hGF
          have HGF := hide hGF
          obtain ⟨X, ea, eo, eu, la, lo, lu, hRD⟩ := hMZ.read
          have hXs : X.small := by
            have := HD.out.bd
            have := HD.out.hn
            refine ⟨?_, ?_, ?_⟩
            · rw [la, hGF.bl]; omega
            · rw [lo, hGF.ol]; omega
            · rw [lu, hGF.ul]; omega
          have hrec : Blk W9 s 28 (RR.cells X) := by
            have h := hMZ.rec_
            rw [ea, eo, eu] at h
            exact h
          have HIN := hide (fun (S : List Nat) (hS : ∀ i ∈ S, i < w.heap.size) => hRD (g :: S) (fun i hi => by
            simp only [List.mem_cons] at hi
            rcases hi with rfl | hi
            · exact .inl hgB
            · have := hS i hi
              exact .inl (by omega)))
          have HG9 := hide hMZ.zero
          have HK9 := hide hMZ.kept
          have hyl : (y17 : Int) < (j : Int) := by omega
          obtain ⟨k0, k1, k2, k3, k4, k5, k6, k7, k8, k9, k10, k11, k12, k13⟩ := cell14 hrec
          obtain ⟨d0, d1, d2, d3, d4, d5, d6, d7, d8, d9, d10, d11, d12, d13⟩ := cell14 HG9.out
          simp only [Rg.zero, Sl.zero] at d0 d1 d2 d3 d4 d5 d6 d7 d8 d9 d10 d11 d12 d13
          have f0 := HG9.out.frozen 0
          have f1 := HG9.out.frozen 1
          have f2 := HG9.out.frozen 2
          have f3 := HG9.out.frozen 3
          have f4 := HG9.out.frozen 4
          have f5 := HG9.out.frozen 5
          have f6 := HG9.out.frozen 6
          have f7 := HG9.out.frozen 7
          have f8 := HG9.out.frozen 8
          have f9 := HG9.out.frozen 9
          have f10 := HG9.out.frozen 10
          have f11 := HG9.out.frozen 11
          have f12 := HG9.out.frozen 12
          have f13 := HG9.out.frozen 13
          have HPE := hide (put14_eq W9 g RR X)
          have hbw := hide (put14_at RR X HG9.out)
          have hkw := hide (put14_kept (S := []) RR X HK9.out (g := g) (.inr HWG.out))
          have hkg := hide (put14_kept (S := [g]) RR X (Kept.refl [g] W9) (g := g) (.inl (by simp)))
          clear hMZ hg hGF HGOOD HM HS HR HQ hux hul hup hRD hrec la lo lu ea eo eu hRR
          go_wp2
          rw [HPE.out]
          generalize put14 W9 g RR X = V9 at hbw hkw hkg ⊢
          obtain ⟨t0, t1, t2, t3, t4, t5, t6, t7, t8, t9, t10, t11, t12, t13⟩ := cell14 hbw.out
          refine bodyPost_ret (v := RR.val X) ?_ rfl ⟨RR, X, rfl, HGF.out, hXs, fun S hS => ?_, hkw.out⟩
          · simp [results, Try.results19, go_sem, t0, t1, t2, t3, t4, t5, t6, t7, t8, t9, t10, t11, t12, t13, Rg.val]
          · exact ((HIN.out S (by first | exact hS | (rw [hq]; exact hS))).kept hkg.out (by simp)).less (fun i hi => by simp [hi])
end Go.Proofs.Ythacnlpdodlggaa.rg
