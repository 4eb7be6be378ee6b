/- Slots as bits: the code's packed and unpacked, the reference's bits and unbits. -/
import Derived.Test.YthacnlpdodlggaaRegionMath
import Derived.Test.YthacnlpdodlggaaRefCore
import Derived.Test.YthacnlpdodlggaaFar
namespace Go.Proofs.Ythacnlpdodlggaa.rg
open Go.RowKit Go.Proofs.Ythacnlpdodlggaa.mem Go.Proofs.Ythacnlpdodlggaa.base Go.Proofs.Ythacnlpdodlggaa.row

theorem bits_step {l : List Int} {j : Nat} {x z q : Int} (hx : l[j]? = some x) (ho : 0 ≤ x ∧ x ≤ 1) (hs : slotsOk (l.take j)) (hz : bitsOf (l.take j) = z) (hq : q = x * 2 ^ j) (hj : j < 6) : bits .or .i64 z q = bitsOf (l.take (j + 1)) := by
  subst hq
  have hlj : (l.take j).length = j := by rw [List.length_take]; have := (List.getElem?_eq_some_iff.1 hx).1; omega
  have hb := bitsOf_bd _ hs
  rw [hlj, hz] at hb
  have e : l.take (j + 1) = l.take j ++ [x] := by rw [List.take_add_one, hx]; rfl
  rw [e, bitsOf_snoc, hz, hlj]
  obtain ⟨a, rfl⟩ := Int.eq_ofNat_of_zero_le hb.1
  obtain ⟨y, rfl⟩ := Int.eq_ofNat_of_zero_le ho.1
  have hp : (2 : Int) ^ j = ((2 ^ j : Nat) : Int) := by simp
  rw [hp] at hb ⊢
  have h2 : (2 : Nat) ^ j ≤ 2 ^ 5 := Nat.pow_le_pow_right (by omega) (by omega)
  have h3 : y * 2 ^ j ≤ 1 * 2 ^ 5 := Nat.mul_le_mul (by omega) h2
  exact or_far a y j (by omega) (by omega)
theorem bit_step {x z : Int} {j : Nat} (hx : 0 ≤ x ∧ x < 256) (hz : z = x / 2 ^ j) : bits .and .i64 z 1 = x / 2 ^ j % 2 := by
  have hp : (0 : Int) < 2 ^ j := Int.pow_pos (by omega)
  have h0 : 0 ≤ z := by rw [hz]; exact Int.ediv_nonneg hx.1 (by omega)
  have h1 : z ≤ x := by rw [hz]; exact Int.ediv_le_self _ hx.1
  rw [← hz]
  obtain ⟨a, rfl⟩ := Int.eq_ofNat_of_zero_le h0
  rw [show (1 : Int) = ((1 : Nat) : Int) from rfl, i64_and_nat a 1 (by omega) (by omega), Nat.and_one_is_mod]
  omega
theorem madeInts (n : Nat) : madeCells #[Value.int .i64 0] n = ((List.replicate n (0 : Int)).map I).toArray := by
  apply Array.ext
  · simp [madeCells]
  · intro i h1 h2
    simp [madeCells, I, Nat.mod_one]
theorem bit_bd (x : Int) (j : Nat) : 0 ≤ x / 2 ^ j % 2 ∧ x / 2 ^ j % 2 ≤ 1 := by omega

set_option maxRecDepth 100000 in
theorem packed_any (A : Option Addr) (n c : Nat) (l : List Int) (w : World) (hv : Vals w [] A (l.map I)) (hl : l.length = n) (ho : slotsOk l) (hn : n ≤ 5) :
    Calls Try.prog 64 #[.slice A n c] w fun e w' => e = .returned (.int .i64 (bitsOf l)) ∧ w = w' := by
  have HV := hide hv
  have HL := hide hl
  have HO := hide ho
  clear hv hl ho
  go_enter Try.func64, Try.ntmps64
  go_wp2
  go_loop [3, 8] (fun x i => ∃ j : Nat, j ≤ n ∧ i = .int .i64 j ∧ x = .int .i64 (bitsOf (l.take j))) (fun x i => n - (intOf i).toNat)
  case atStart => exact ⟨0, by omega, rfl, rfl⟩
  case round =>
    obtain ⟨j, hj, rfl, rfl⟩ := hrel
    by_cases hlt : j < n
    · obtain ⟨x, hx⟩ : ∃ x, l[j]? = some x := ⟨_, List.getElem?_eq_getElem (by rw [HL.out]; exact hlt)⟩
      obtain ⟨ad, rfl, _, hc⟩ := HV.out j (I x) (by rw [List.getElem?_map, hx]; rfl)
      unfold I at hc
      have hb := slotsOk_at HO.out hx
      have hb0 := hb.1
      have hb1 := hb.2
      have HST : Hid (∀ q : Int, q = x * 2 ^ j → bits .or .i64 (bitsOf (l.take j)) q = bitsOf (l.take (j + 1))) := hide (fun q hq => bits_step hx hb (fun y hy => HO.out y (List.mem_of_mem_take hy)) rfl hq (by omega))
      clear hx hb
      generalize hz : bitsOf (l.take j) = z at *
      clear hz
      have hj4 : j = 0 ∨ j = 1 ∨ j = 2 ∨ j = 3 ∨ j = 4 := by omega
      rcases hj4 with rfl | rfl | rfl | rfl | rfl
      all_goals
        first | rw [show ad.add 0 = ad by unfold Addr.add; simp] at hc | rw [add_pos ad _ (by omega)] at hc
        go_wp2
        go_round
        case rel => exact ⟨_, hlt, by go_num, by rw [HST.out _ (by simp)]⟩
        case measure => simp [intOf]; omega
    · obtain rfl : j = n := by omega
      rw [List.take_of_length_le (by rw [HL.out]; exact Nat.le_refl _)]
      go_wp2
      go_ret
      exact ⟨rfl, rfl⟩

set_option maxRecDepth 100000 in
theorem rbits_any (A : Option Addr) (n c : Nat) (l : List Int) (w : World) (hv : Vals w [] A (l.map I)) (hl : l.length = n) (ho : slotsOk l) (hn : n ≤ 5) :
    Calls Try.prog 35 #[.slice A n c] w fun e w' => e = .returned (.int .i64 (bitsOf l)) ∧ w = w' := by
  have HV := hide hv
  have HL := hide hl
  have HO := hide ho
  clear hv hl ho
  go_enter Try.func35, Try.ntmps35
  go_wp2
  go_loop [3, 4] (fun x i => ∃ j : Nat, j ≤ n ∧ i = .int .i64 j ∧ x = .int .i64 (bitsOf (l.take j))) (fun x i => n - (intOf i).toNat)
  case atStart => exact ⟨0, by omega, rfl, rfl⟩
  case round =>
    obtain ⟨j, hj, rfl, rfl⟩ := hrel
    by_cases hlt : j < n
    · obtain ⟨x, hx⟩ : ∃ x, l[j]? = some x := ⟨_, List.getElem?_eq_getElem (by rw [HL.out]; exact hlt)⟩
      obtain ⟨ad, rfl, _, hc⟩ := HV.out j (I x) (by rw [List.getElem?_map, hx]; rfl)
      unfold I at hc
      have hb := slotsOk_at HO.out hx
      have hb0 := hb.1
      have hb1 := hb.2
      have HST : Hid (∀ q : Int, q = x * 2 ^ j → bits .or .i64 (bitsOf (l.take j)) q = bitsOf (l.take (j + 1))) := hide (fun q hq => bits_step hx hb (fun y hy => HO.out y (List.mem_of_mem_take hy)) rfl hq (by omega))
      clear hx hb
      generalize hz : bitsOf (l.take j) = z at *
      clear hz
      have hj4 : j = 0 ∨ j = 1 ∨ j = 2 ∨ j = 3 ∨ j = 4 := by omega
      rcases hj4 with rfl | rfl | rfl | rfl | rfl
      all_goals
        first | rw [show ad.add 0 = ad by unfold Addr.add; simp] at hc | rw [add_pos ad _ (by omega)] at hc
        go_wp2
        go_round
        case rel => exact ⟨_, hlt, by go_num, by rw [HST.out _ (by simp)]⟩
        case measure => simp [intOf]; omega
    · obtain rfl : j = n := by omega
      rw [List.take_of_length_le (by rw [HL.out]; exact Nat.le_refl _)]
      go_wp2
      go_ret
      exact ⟨rfl, rfl⟩

theorem set_int (l : List Int) (k m : Nat) (i : Int) (hk : l.length = k) (hm : k < m) : ((l ++ List.replicate (m - k) 0).map I).set k (.int .i64 i) = ((l ++ [i]) ++ List.replicate (m - (k + 1)) 0).map I := by
  obtain ⟨d, rfl⟩ : ∃ d, m = k + (d + 1) := ⟨m - k - 1, by omega⟩
  rw [show k + (d + 1) - k = d + 1 by omega, show k + (d + 1) - (k + 1) = d by omega, List.replicate_succ]
  simp only [List.map_append, List.map_cons, List.map_nil]
  rw [List.set_append_right _ _ (by simp [hk])]
  simp [hk, I]

set_option maxRecDepth 100000 in
set_option maxHeartbeats 1000000 in
theorem unpacked_any (y : Nat) (x : Int) (w : World) (hx : 0 ≤ x ∧ x < 256) (hy : 1 ≤ y ∧ y ≤ 5) :
    Calls Try.prog 78 #[.int .i64 y, .int .i64 x] w fun e w' => ∃ g, e = .returned (.slice (some ⟨g, 0, none⟩) y y) ∧ w.heap.size ≤ g ∧ Blk w' g 3 ((unbits y x).map I).toArray ∧ Kept [] w w' := by
  have HX := hide hx
  have hx0 := hx.1
  have hx1 := hx.2
  have hy1 := hy.1
  have hy5 := hy.2
  clear hx hy
  have hmk := run_make_row' (P := Try.prog) 25 3 (.int .i64 0) 8 (by kernel_rfl) (by kernel_rfl) rfl .i64 .i64 y (by omega) (by omega) w
  rw [madeInts] at hmk
  obtain ⟨w1, hw1⟩ : ∃ w1, w.alloc (.cells ((List.replicate y (0 : Int)).map I).toArray 3) = w1 := ⟨_, rfl⟩
  have hb1 : Blk w1 w.heap.size 3 ((unbits 0 x ++ List.replicate (y - 0) (0 : Int)).map I).toArray := by rw [← hw1]; exact Blk.new w _ _
  have hk1 : Kept [] w w1 := by rw [← hw1]; exact (Kept.refl [] w).alloc _
  obtain ⟨g, hg⟩ : ∃ g, w.heap.size = g := ⟨_, rfl⟩
  rw [hg] at hb1 hmk
  rw [hw1] at hmk
  have HG := hide (Nat.le_of_eq hg)
  have HB1 := hide hb1
  have HK1 := hide hk1
  clear hb1 hk1 hw1 hg
  go_enter Try.func78, Try.ntmps78
  go_wp2
  go_loopw [11] (fun i wr => ∃ j : Nat, j ≤ y ∧ i = .int .i64 j ∧ Hid (Blk wr g 3 ((unbits j x ++ List.replicate (y - j) (0 : Int)).map I).toArray) ∧ Hid (Kept [] w wr)) (fun i wr => y - (intOf i).toNat)
  case atStart => exact ⟨0, by omega, rfl, HB1, HK1⟩
  case round =>
    obtain ⟨j, hj, rfl, HB, HK⟩ := hrel
    by_cases hlt : j < y
    · have HS := hide (HB.out.set_ j (.int .i64 (x / 2 ^ j % 2)))
      have hz := HB.out.cell j
      have hfz := HB.out.frozen j
      rw [List.getElem?_toArray, List.getElem?_map, List.getElem?_append_right (by rw [unbits_len]; omega), unbits_len, Nat.sub_self, List.getElem?_replicate, if_pos (by omega)] at hz
      simp only [Option.map_some, I] at hz
      have HN := hide (fun (v : Int) (hv : v = x / 2 ^ j % 2) => (show Blk (wr.setCell ⟨g, j, none⟩ (.int .i64 v)) g 3 ((unbits (j + 1) x ++ List.replicate (y - (j + 1)) (0 : Int)).map I).toArray by
        subst hv
        have h := HS.out
        rw [List.setIfInBounds_toArray, set_int _ j y _ (unbits_len j x) hlt, ← unbits_succ] at h
        exact h))
      have HKN := hide (fun (v : Int) => HK.out.set_ (b := g) (.inr HG.out) j (.int .i64 v))
      clear HS
      have hj4 : j = 0 ∨ j = 1 ∨ j = 2 ∨ j = 3 ∨ j = 4 := by omega
      have HBT : Hid (∀ z : Int, z = x / 2 ^ j → bits .and .i64 z 1 = x / 2 ^ j % 2) := hide (fun z hz => bit_step HX.out hz)
      rcases hj4 with rfl | rfl | rfl | rfl | rfl
      all_goals
        go_wp2
        go_roundw
        case rel => exact ⟨_, hlt, by go_num, hide (HN.out _ (HBT.out _ (by simp))), hide (HKN.out _)⟩
        case measure => simp [intOf]; omega
    · obtain rfl : j = y := by omega
      have hb := HB.out
      rw [Nat.sub_self, List.replicate_zero, List.append_nil] at hb
      have HB2 := hide hb
      clear hb
      go_wp2
      go_ret
      exact ⟨g, rfl, HG.out, HB2.out, HK.out⟩

set_option maxRecDepth 100000 in
set_option maxHeartbeats 1000000 in
theorem runbits_any (y : Nat) (x : Int) (w : World) (hx : 0 ≤ x ∧ x < 256) (hy : 1 ≤ y ∧ y ≤ 5) :
    Calls Try.prog 52 #[.int .i64 x, .int .i64 y] w fun e w' => ∃ A c, e = .returned (.slice A y c) ∧ y ≤ c ∧ (∀ S : List Nat, (∀ i ∈ S, i < w.heap.size) → Vals w' S A ((unbits y x).map I)) ∧ Kept [] w w' := by
  have HX := hide hx
  have hx0 := hx.1
  have hx1 := hx.2
  have hy1 := hy.1
  have hy5 := hy.2
  clear hx hy
  go_enter Try.func52, Try.ntmps52
  go_wp2
  go_loopw [5, 6] (fun v i wr => ∃ j : Nat, j ≤ y ∧ i = .int .i64 j ∧ Hid (wr.ownsRow w.heap.size 3 1 v j ((unbits j x).map I)) ∧ Hid (Kept [] w wr)) (fun v i wr => y - (intOf i).toNat)
  case atStart => exact ⟨0, by omega, rfl, hide (World.ownsRow_nil _ _ _ _), hide (Kept.refl _ _)⟩
  case round =>
    obtain ⟨j, hj, rfl, HO, HK⟩ := hrel
    obtain ⟨A5, c5, rfl, h5, _, _, _⟩ := own_slice HO.out
    by_cases hlt : j < y
    · have HU := hide (unbits_succ j x)
      have HOA : Hid (∀ o : Obj, (wr.alloc o).ownsRow w.heap.size 3 1 (.slice A5 j c5) j ((unbits j x).map I)) := hide (fun o => HO.out.alloc o)
      have hs := HK.out.size
      have hd : bits .and .i64 (x / 2 ^ j) 1 = x / 2 ^ j % 2 := bit_step HX.out rfl
      have HNX : Hid (∀ (v : Value) (w1 : World), w1.ownsRow w.heap.size 3 1 v (j + 1) ((unbits j x).map I ++ [x / 2 ^ j % 2].map I) → w1.ownsRow w.heap.size 3 1 v (j + 1) ((unbits (j + 1) x).map I)) := hide (fun v w1 h => by
        rw [unbits_succ, List.map_append]
        exact h)
      go_wp2_with (at_builtin; refine wpList_append_vals rfl (.tmp 12) (.tmp 17) 25 rfl w.heap.size 3 (.int .i64 0) 1 8 Try.underlying25 int_info rfl (by omega) (.slice A5 j c5) j ((unbits j x).map I) rfl (HOA.out _) [] _ 1 1 ([x / 2 ^ j % 2].map I) rfl (by simp) (base.vals_one _ [] _ _ (by simp)) (oneCell_I _) (by simp only [maxLen]; omega) (by omega) (by simp; omega) ?_; intro v1 w1 hown1 hk1 hat1)
      go_roundw
      case rel => exact ⟨j + 1, by omega, by go_num, hide (HNX.out _ _ hown1), hide (kept_own HO.out (Nat.le_refl _) HK.out _ hk1)⟩
      case measure => simp [intOf]; omega
    · obtain rfl : j = y := by omega
      go_wp2
      go_ret
      obtain ⟨A6, c6, e6, h6, _, hv, _⟩ := own_slice HO.out
      cases e6
      exact ⟨A5, c5, rfl, h6, fun S hS => hv S (fun i hi => .inl (hS i hi)), HK.out⟩
end Go.Proofs.Ythacnlpdodlggaa.rg
