/- The reference's image: Refs, Dirty, Page. -/
import Derived.Test.YtfeepmahipecpaaImageRefB
import Derived.Test.YtfeepmahipecpaaImageLaw
import Derived.Deep.CutRange
import Derived.Deep.CutBlock
import Derived.StillTailTactics
namespace Go.Proofs.Ytfeepmahipecpaa.im
set_option linter.unusedSimpArgs false
set_option linter.unusedVariables false
open Go.RowKit Go.Proofs.Ytfeepmahipecpaa.mem Go.Proofs.Ytfeepmahipecpaa.base Go.Proofs.Ytfeepmahipecpaa.pd Go.Proofs.Ytfeepmahipecpaa.owns
section
variable {w w' : World} {p V U D E c : Nat} {M M' : Im}
set_option maxRecDepth 100000 in
set_option maxHeartbeats 1000000 in
theorem rrefs_any (h : RI w p V U D E c M) :
    Calls Try.prog 57 #[.pointer (some ⟨p, 0, none⟩)] w fun e w' => ∃ v, e = .returned v ∧ w'.ownsRow w.heap.size 53 2 v (refsL M).length (cellsR (refsL M)) ∧ Kept [] w w' := by
  have hs := h.small
  have H := hide h
  have HLT := hide h.lt
  have HLE := hide h.len
  obtain ⟨n, hN⟩ : ∃ N, M.b.l.length = N := ⟨_, rfl⟩
  have HNE := hide hN
  rw [hN] at hs HLE
  unfold refsL
  rw [hN]
  have HO0 := hide (show w.ownsRow w.heap.size 53 2 (.slice none 0 0) (rf M.o.l (placed M.b.l 0)).length (cellsR (rf M.o.l (placed M.b.l 0))) from World.ownsRow_nil _ _ _ _)
  clear h hN
  go_enter Try.func57, Try.ntmps57
  go_wp2
  go_loopw [3, 4] (fun l i wr => ∃ k : Nat, k ≤ n ∧ i = .int .i64 k ∧ Hid (wr.ownsRow w.heap.size 53 2 l (rf M.o.l (placed M.b.l k)).length (cellsR (rf M.o.l (placed M.b.l k)))) ∧ (rf M.o.l (placed M.b.l k)).length ≤ 2 * k ∧ Hid (Kept [] w wr)) (fun _ i _ => n - (intOf i).toNat)
  case atStart => exact ⟨0, Nat.zero_le _, rfl, HO0, by simp [rf, placed], hide (Kept.refl _ _)⟩
  case round =>
    clear HO0
    obtain ⟨k, hk, rfl, HO, hle, HK⟩ := hrel
    obtain ⟨A0, cc0, rfl, _, _⟩ := own_read HO.out
    have HI := hide (H.out.keep HK.out)
    obtain ⟨q0, q1, _, _⟩ := HI.out.cells
    rw [HNE.out] at q0 q1
    by_cases hlt : k < n
    · have hkb : k < M.b.l.length := by rw [HNE.out]; exact hlt
      have hko : k < M.o.l.length := by rw [HLE.out]; exact hlt
      have c0 := HI.out.base.cell hkb
      have c1 := HI.out.over.cell hko
      obtain ⟨x, hx⟩ : ∃ x, M.b.l.getD k 0 = x := ⟨_, rfl⟩
      obtain ⟨y, hy⟩ : ∃ y, M.o.l.getD k 0 = y := ⟨_, rfl⟩
      rw [hx] at c0
      rw [hy] at c1
      have HP := hide (show placed M.b.l (k + 1) = placed M.b.l k ++ [(k, x)] from placed_succ _ _ _ (by rw [getD_of hkb, hx]))
      have HY := hide hy
      have HOA0 := hide (fun o : Obj => HO.out.alloc o)
      have HSZ0 := hide HK.out.size
      clear hx hy hkb hko
      obtain ⟨L, hL⟩ : ∃ L, rf M.o.l (placed M.b.l k) = L := ⟨_, rfl⟩
      have HL := hide hL
      rw [hL] at HO HOA0 hle ⊢
      clear hL
      by_cases g1 : x > 0
      · have d1 : decide (x > 0) = true := decide_eq_true g1
        clear g1
        go_upto_region 7 with (at_builtin; go_loud (refine wpList_append_vals rfl (.tmp 22) (.tmp 32) 50 rfl w.heap.size 53 (.agg #[.int .i64 0, .int .i64 0]) 2 16 Try.underlying50 ref_info rfl (by decide) (.slice A0 L.length cc0) L.length (cellsR L) rfl (HOA0.out _) [] _ 1 1 [.int .i64 (k : Int), .int .i64 x] rfl (by simp) (Vals.lit wr [] _ _ _ _ rfl (by simp)) (by simp [Value.oneCell']) (by simp only [maxLen]; omega) (by omega) (by have := HSZ0.out; simp; omega) ?_); intro v1 w1 hown1 hk1 hat1)
        have HO1 := hide (show w1.ownsRow w.heap.size 53 2 v1 (L ++ [(k, x)]).length (cellsR (L ++ [(k, x)])) from by rw [List.length_append, cellsR_snoc]; exact hown1)
        have HK1 := hide ((HK.out.alloc _).trans hk1 (fun y hy => .inr (own_blk HO.out y hy).1))
        have HI1 := hide (H.out.keep HK1.out)
        have HOA1 := hide (fun o : Obj => HO1.out.alloc o)
        have HSZ1 := hide HK1.out.size
        obtain ⟨A1, cc1, rfl, _, _⟩ := own_read HO1.out
        have HLL := hide (show (L ++ [(k, x)]).length = L.length + 1 from by simp)
        obtain ⟨r0, r1, _, _⟩ := HI1.out.cells
        rw [HNE.out] at r0 r1
        have e1 := HI1.out.over.cell (j := k) (by rw [HLE.out]; exact hlt)
        rw [HY.out] at e1
        clear hown1 hk1 hat1 q0 q1 c0 c1
        by_cases g2 : y > 0
        · have d2 : decide (y > 0) = true := decide_eq_true g2
          have HN := hide (show rf M.o.l (placed M.b.l (k + 1)) = L ++ [(k, x)] ++ [(k, y)] from by rw [HP.out, rf_yy d1 (by rw [HY.out]; exact d2), HL.out, HY.out])
          have hl1 : (L ++ [(k, x)]).length ≤ 2 * k + 1 := by rw [HLL.out]; omega
          obtain ⟨L1, hL1⟩ : ∃ L1, L ++ [(k, x)] = L1 := ⟨_, rfl⟩
          rw [hL1] at HO1 HOA1 HN hl1
          rw [hL1]
          clear g2 hL1
          go_wp2_with (at_builtin; go_loud (refine wpList_append_vals rfl (.tmp 42) (.tmp 52) 50 rfl w.heap.size 53 (.agg #[.int .i64 0, .int .i64 0]) 2 16 Try.underlying50 ref_info rfl (by decide) (.slice A1 L1.length cc1) L1.length (cellsR L1) rfl (HOA1.out _) [] _ 1 1 [.int .i64 (k : Int), .int .i64 y] rfl (by simp) (Vals.lit w1 [] _ _ _ _ rfl (by simp)) (by simp [Value.oneCell']) (by simp only [maxLen]; omega) (by omega) (by have := HSZ1.out; simp; omega) ?_); intro v2 w2 hown2 hk2 hat2)
          have HK2 := hide ((HK1.out.alloc _).trans hk2 (fun y hy => .inr (own_blk HO1.out y hy).1))
          go_wp2
          go_roundw
          case rel => exact ⟨k + 1, by omega, by go_num, by rw [HN.out, List.length_append, cellsR_snoc]; exact hide hown2, by rw [HN.out, List.length_append]; simp; omega, HK2⟩
          case measure => simp [intOf]; omega
        · have d2 : decide (y > 0) = false := decide_eq_false g2
          have HN := hide (show rf M.o.l (placed M.b.l (k + 1)) = L ++ [(k, x)] from by rw [HP.out, rf_yn d1 (by rw [HY.out]; exact d2), HL.out])
          clear g2
          go_wp2
          go_roundw
          case rel => exact ⟨k + 1, by omega, by go_num, by rw [HN.out]; exact HO1, by rw [HN.out, HLL.out]; omega, HK1⟩
          case measure => simp [intOf]; omega
      · have d1 : decide (x > 0) = false := decide_eq_false g1
        clear g1
        by_cases g2 : y > 0
        · have d2 : decide (y > 0) = true := decide_eq_true g2
          have HN := hide (show rf M.o.l (placed M.b.l (k + 1)) = L ++ [(k, y)] from by rw [HP.out, rf_ny d1 (by rw [HY.out]; exact d2), HL.out, HY.out])
          clear g2
          go_wp2_with (at_builtin; go_loud (refine wpList_append_vals rfl (.tmp 42) (.tmp 52) 50 rfl w.heap.size 53 (.agg #[.int .i64 0, .int .i64 0]) 2 16 Try.underlying50 ref_info rfl (by decide) (.slice A0 L.length cc0) L.length (cellsR L) rfl (HOA0.out _) [] _ 1 1 [.int .i64 (k : Int), .int .i64 y] rfl (by simp) (Vals.lit wr [] _ _ _ _ rfl (by simp)) (by simp [Value.oneCell']) (by simp only [maxLen]; omega) (by omega) (by have := HSZ0.out; simp; omega) ?_); intro v1 w1 hown1 hk1 hat1)
          have HK1 := hide ((HK.out.alloc _).trans hk1 (fun y hy => .inr (own_blk HO.out y hy).1))
          go_wp2
          go_roundw
          case rel => exact ⟨k + 1, by omega, by go_num, by rw [HN.out, List.length_append, cellsR_snoc]; exact hide hown1, by rw [HN.out, List.length_append]; simp; omega, HK1⟩
          case measure => simp [intOf]; omega
        · have d2 : decide (y > 0) = false := decide_eq_false g2
          have HN := hide (show rf M.o.l (placed M.b.l (k + 1)) = L from by rw [HP.out, rf_nn d1 (by rw [HY.out]; exact d2), HL.out])
          clear g2
          go_wp2
          go_roundw
          case rel => exact ⟨k + 1, by omega, by go_num, by rw [HN.out]; exact HO, by rw [HN.out]; omega, HK⟩
          case measure => simp [intOf]; omega
    · obtain rfl : k = n := by omega
      go_wp2
      go_ret
      exact ⟨_, rfl, HO.out, HK.out⟩
set_option maxRecDepth 100000 in
theorem rdirty_false (h : RI w p V U D E c M) :
    Calls Try.prog 52 #[.pointer (some ⟨p, 0, none⟩), .bool false] w fun e w' => ∃ v, e = .returned v ∧ w'.ownsRow w.heap.size 3 1 v (M.dirt false).length (cellsN (M.dirt false)) ∧ Kept [] w w' := by
  have hs := h.small
  have hpg := h.pg
  have H := hide h
  have HDL := hide h.dlen
  have HT := hide (rtable_any h false)
  unfold tabV tabK at HT
  rw [if_neg (by decide), if_neg (by decide)] at HT
  obtain ⟨m, hm⟩ : ∃ m, M.b.d.length = m := ⟨_, rfl⟩
  have HM := hide hm
  have HE := hide (show M.b.d.length = m from hm)
  have HN := hide (show M.dirt false = marked M.b.d m from by unfold Im.dirt; show marked M.b.d M.b.d.length = _; rw [HE.out])
  rw [HN.out]
  have hm9 : m ≤ 9 := by omega
  have HO0 := hide (show w.ownsRow w.heap.size 3 1 (.slice none 0 0) (marked M.b.d 0).length (cellsN (marked M.b.d 0)) from World.ownsRow_nil _ _ _ _)
  obtain ⟨n, hn⟩ : ∃ n, M.b.l.length = n := ⟨_, rfl⟩
  rw [hn] at HT
  clear h hm hpg hs hn
  go_enter Try.func52, Try.ntmps52
  go_wp2_with fail
  refine HT.out.mono ?_
  rintro e w' ⟨rfl, rfl⟩
  go_wp2
  go_loopw [7, 8] (fun l i wr => ∃ k : Nat, k ≤ m ∧ i = .int .i64 k ∧ Hid (wr.ownsRow w.heap.size 3 1 l (marked M.b.d k).length (cellsN (marked M.b.d k))) ∧ Hid (Kept [] w wr)) (fun _ i _ => m - (intOf i).toNat)
  case atStart => exact ⟨0, Nat.zero_le _, rfl, HO0, hide (Kept.refl _ _)⟩
  case round =>
    clear HO0
    obtain ⟨k, hk, rfl, HO, HK⟩ := hrel
    obtain ⟨A0, cc0, rfl, _, _⟩ := own_read HO.out
    have HI := hide (H.out.keep HK.out)
    obtain ⟨_, _, q2, q3⟩ := HI.out.cells
    rw [HM.out] at q2 q3
    have hle := marked_length M.b.d k
    by_cases hlt : k < m
    · obtain ⟨bo, hbo⟩ : ∃ bo, M.b.d[k]? = some bo := ⟨_, List.getElem?_eq_getElem (by rw [HE.out]; exact hlt)⟩
      have c0 : wr.cell? ⟨D, k, none⟩ = some (.bool bo) := by rw [HI.out.d.cell]; simp [bv, hbo]
      have HB := hide hbo
      have HOA0 := hide (fun o : Obj => HO.out.alloc o)
      have HSZ0 := hide HK.out.size
      clear hbo
      cases bo
      · have HX := hide (marked_no M.b.d k HB.out)
        go_wp2
        go_roundw
        case rel => exact ⟨k + 1, by omega, by go_num, by rw [HX.out]; exact HO, HK⟩
        case measure => simp [intOf]; omega
      · have HX := hide (marked_yes M.b.d k HB.out)
        go_wp2_with (at_builtin; refine wpList_append_vals rfl (.tmp 35) (.tmp 37) 29 rfl w.heap.size 3 (.int .i64 0) 1 8 Try.underlying29 base.int_info rfl (by omega) (.slice A0 (marked M.b.d k).length cc0) (marked M.b.d k).length (cellsN (marked M.b.d k)) rfl (HOA0.out _) [] _ 1 1 ([(k : Int)].map I) rfl (by simp) (base.vals_one _ [] _ _ (by simp)) (oneCell_I _) (by simp only [maxLen]; omega) (by omega) (by have := HSZ0.out; simp; omega) ?_; intro v1 w1 hown1 hk1 hat1)
        have HK1 := hide ((HK.out.alloc _).trans hk1 (fun y hy => .inr (own_blk HO.out y hy).1))
        go_wp2
        go_roundw
        case rel => exact ⟨k + 1, by omega, by go_num, by rw [HX.out, List.length_append, cellsN_snoc]; exact hide hown1, HK1⟩
        case measure => simp [intOf]; omega
    · obtain rfl : k = m := by omega
      go_wp2
      go_ret
      exact ⟨_, rfl, HO.out, HK.out⟩
set_option maxRecDepth 100000 in
theorem rdirty_true (h : RI w p V U D E c M) :
    Calls Try.prog 52 #[.pointer (some ⟨p, 0, none⟩), .bool true] w fun e w' => ∃ v, e = .returned v ∧ w'.ownsRow w.heap.size 3 1 v (M.dirt true).length (cellsN (M.dirt true)) ∧ Kept [] w w' := by
  have hs := h.small
  have hpg := h.pg
  have H := hide h
  have HDL := hide h.dlen
  have HT := hide (rtable_any h true)
  unfold tabV tabK at HT
  rw [if_pos rfl, if_pos rfl] at HT
  obtain ⟨m, hm⟩ : ∃ m, M.b.d.length = m := ⟨_, rfl⟩
  have HM := hide hm
  have HE := hide (show M.o.d.length = m from h.dlen.trans hm)
  have HN := hide (show M.dirt true = marked M.o.d m from by unfold Im.dirt; show marked M.o.d M.o.d.length = _; rw [HE.out])
  rw [HN.out]
  have hm9 : m ≤ 9 := by omega
  have HO0 := hide (show w.ownsRow w.heap.size 3 1 (.slice none 0 0) (marked M.o.d 0).length (cellsN (marked M.o.d 0)) from World.ownsRow_nil _ _ _ _)
  obtain ⟨n, hn⟩ : ∃ n, M.b.l.length = n := ⟨_, rfl⟩
  rw [hn] at HT
  clear h hm hpg hs hn
  go_enter Try.func52, Try.ntmps52
  go_wp2_with fail
  refine HT.out.mono ?_
  rintro e w' ⟨rfl, rfl⟩
  go_wp2
  go_loopw [7, 8] (fun l i wr => ∃ k : Nat, k ≤ m ∧ i = .int .i64 k ∧ Hid (wr.ownsRow w.heap.size 3 1 l (marked M.o.d k).length (cellsN (marked M.o.d k))) ∧ Hid (Kept [] w wr)) (fun _ i _ => m - (intOf i).toNat)
  case atStart => exact ⟨0, Nat.zero_le _, rfl, HO0, hide (Kept.refl _ _)⟩
  case round =>
    clear HO0
    obtain ⟨k, hk, rfl, HO, HK⟩ := hrel
    obtain ⟨A0, cc0, rfl, _, _⟩ := own_read HO.out
    have HI := hide (H.out.keep HK.out)
    obtain ⟨_, _, q2, q3⟩ := HI.out.cells
    rw [HM.out] at q2 q3
    have hle := marked_length M.o.d k
    by_cases hlt : k < m
    · obtain ⟨bo, hbo⟩ : ∃ bo, M.o.d[k]? = some bo := ⟨_, List.getElem?_eq_getElem (by rw [HE.out]; exact hlt)⟩
      have c0 : wr.cell? ⟨E, k, none⟩ = some (.bool bo) := by rw [HI.out.e.cell]; simp [bv, hbo]
      have HB := hide hbo
      have HOA0 := hide (fun o : Obj => HO.out.alloc o)
      have HSZ0 := hide HK.out.size
      clear hbo
      cases bo
      · have HX := hide (marked_no M.o.d k HB.out)
        go_wp2
        go_roundw
        case rel => exact ⟨k + 1, by omega, by go_num, by rw [HX.out]; exact HO, HK⟩
        case measure => simp [intOf]; omega
      · have HX := hide (marked_yes M.o.d k HB.out)
        go_wp2_with (at_builtin; refine wpList_append_vals rfl (.tmp 35) (.tmp 37) 29 rfl w.heap.size 3 (.int .i64 0) 1 8 Try.underlying29 base.int_info rfl (by omega) (.slice A0 (marked M.o.d k).length cc0) (marked M.o.d k).length (cellsN (marked M.o.d k)) rfl (HOA0.out _) [] _ 1 1 ([(k : Int)].map I) rfl (by simp) (base.vals_one _ [] _ _ (by simp)) (oneCell_I _) (by simp only [maxLen]; omega) (by omega) (by have := HSZ0.out; simp; omega) ?_; intro v1 w1 hown1 hk1 hat1)
        have HK1 := hide ((HK.out.alloc _).trans hk1 (fun y hy => .inr (own_blk HO.out y hy).1))
        go_wp2
        go_roundw
        case rel => exact ⟨k + 1, by omega, by go_num, by rw [HX.out, List.length_append, cellsN_snoc]; exact hide hown1, HK1⟩
        case measure => simp [intOf]; omega
    · obtain rfl : k = m := by omega
      go_wp2
      go_ret
      exact ⟨_, rfl, HO.out, HK.out⟩
theorem own_empty0 (w : World) (t : TypeId) : (w.alloc (.cells #[] t)).ownsRow w.heap.size t 1 (.slice (some ⟨w.heap.size, 0, none⟩) 0 0) 0 [] := own_empty w w.heap.size t (Nat.le_refl _)
theorem rpage_no (h : RI w p V U D E c M) (ov : Bool) (k : Int) (hk : ¬ (0 ≤ k ∧ k < M.b.d.length)) :
    Calls Try.prog 50 #[.pointer (some ⟨p, 0, none⟩), .bool ov, .int .i64 k] w fun e w' => e = .returned (.slice none 0 0) ∧ w = w' := by
  have hs := h.small
  have hpg := h.pg
  have HT := hide (rtable_any h ov)
  obtain ⟨_, _, q2, _⟩ := h.cells
  obtain ⟨m, hm⟩ : ∃ m, M.b.d.length = m := ⟨_, rfl⟩
  rw [hm] at q2 hk hpg
  have hm9 : m ≤ 9 := by omega
  have hm1 : 1 ≤ m := by omega
  clear h hm hpg hs
  go_enter Try.func50, Try.ntmps50
  go_wp2_with fail
  refine HT.out.mono ?_
  rintro e w' ⟨rfl, rfl⟩
  go_wp2_with fail
  refine (within_no k 0 ((m : Int) - 1) _ (by omega)).mono ?_
  rintro e w' ⟨rfl, rfl⟩
  go_wp2
  go_ret
  exact ⟨rfl, rfl⟩
set_option maxRecDepth 100000 in
theorem rpage_false (h : RI w p V U D E c M) (k : Nat) (hk : k < M.b.d.length) (b m : Nat) (hb : k * 15 = b) (hm : min (b + 15) M.b.l.length - b = m) :
    Calls Try.prog 50 #[.pointer (some ⟨p, 0, none⟩), .bool false, .int .i64 k] w fun e w' => ∃ v, e = .returned v ∧ w'.ownsRow w.heap.size 3 1 v m (((M.b.l.drop b).take m).map I) ∧ Kept [] w w' := by
  have hs := h.small
  have hpg := h.pg
  have hcap := h.cap
  have hle := h.len
  have HT := hide (rtable_any h false)
  unfold tabV tabK at HT
  rw [if_neg (by decide), if_neg (by decide)] at HT
  obtain ⟨_, _, q2, _⟩ := h.cells
  have hll : M.b.l.length = M.b.l.length := rfl
  have hv := h.base.vals [] (by simp)
  obtain ⟨n, hn⟩ : ∃ n, M.b.l.length = n := ⟨_, rfl⟩
  obtain ⟨md, hmd⟩ : ∃ m, M.b.d.length = m := ⟨_, rfl⟩
  rw [hn] at HT hs hm hpg hcap hll
  rw [hmd] at q2 hk hpg
  have hm9 : md ≤ 9 := by omega
  have hbn : b < n := by omega
  have hm1 : 1 ≤ m := by omega
  have hbm : b + m ≤ n := by omega
  have hkb : (k : Int) * 15 = (b : Int) := by omega
  obtain ⟨z, hz⟩ : ∃ z : Nat, (k + 1) * 15 = z := ⟨_, rfl⟩
  have hkz : ((k : Int) + 1) * 15 = (z : Int) := by omega
  obtain ⟨e0, he0⟩ : ∃ e0 : Nat, b + m = e0 := ⟨_, rfl⟩
  have hcs : ((n : Int) < (z : Int) ∧ n - b = m) ∨ (¬ (n : Int) < (z : Int) ∧ z - b = m ∧ z ≤ n) := by omega
  have HPV := hide (show Vals (w.alloc (.cells #[] 3)) [] (some ⟨V, b, none⟩) (((M.b.l.drop b).take m).map I) from by
    rw [List.map_take, List.map_drop]
    have h1 := (hv.kept ((Kept.refl [] w).alloc (.cells #[] 3)) (by simp)).cut b m
    have e : (⟨V, 0, none⟩ : Addr).add b = ⟨V, b, none⟩ := by rw [add_mk, Nat.zero_add]
    rw [Option.map_some, e] at h1
    exact h1)
  have HLN := hide (show (((M.b.l.drop b).take m).map I).length = m * 1 from by rw [List.length_map, List.length_take, List.length_drop]; omega)
  have HKA := hide ((Kept.refl [] w).alloc (.cells #[] 3))
  clear h hn hmd hv hle hll hm hpg hb hz he0
  rcases hcs with ⟨hc1, hc2⟩ | ⟨hc1, hc2, hc3⟩ <;> (
    go_enter Try.func50, Try.ntmps50
    go_wp2_with fail
    refine HT.out.mono ?_
    rintro e w' ⟨rfl, rfl⟩
    go_wp2_with fail
    refine (within_yes k 0 ((md : Int) - 1) _ ⟨by omega, by omega⟩).mono ?_
    rintro e w' ⟨rfl, rfl⟩
    have HEM := hide (own_empty0 w 3)
    go_wp2_with (at_builtin; refine wpList_append_vals rfl (.tmp 25) (.tmp 35) 29 rfl w.heap.size 3 (.int .i64 0) 1 8 Try.underlying29 base.int_info rfl (by omega) (.slice (some ⟨w.heap.size, 0, none⟩) 0 0) 0 [] rfl HEM.out [] (some ⟨V, b, none⟩) m (n - b) (((M.b.l.drop b).take m).map I) (by simp [Act.eval] <;> omega) HLN.out HPV.out (oneCell_I _) (by simp only [maxLen]; omega) (by omega) (by simp) ?_; intro v1 w1 hown1 hk1 hat1)
    have HK1 := hide (HKA.out.trans hk1 (by simp [Value.ownBlock]))
    have HOW := hide (show w1.ownsRow w.heap.size 3 1 v1 m (((M.b.l.drop b).take m).map I) from by rw [Nat.zero_add] at hown1; exact hown1)
    clear hown1 hk1 hat1
    go_wp2
    go_ret
    exact ⟨_, rfl, by have h1 := HOW.out; rwa [List.map_take, List.map_drop] at h1, HK1.out⟩)
set_option maxRecDepth 100000 in
theorem rpage_true (h : RI w p V U D E c M) (k : Nat) (hk : k < M.b.d.length) (b m : Nat) (hb : k * 15 = b) (hm : min (b + 15) M.b.l.length - b = m) :
    Calls Try.prog 50 #[.pointer (some ⟨p, 0, none⟩), .bool true, .int .i64 k] w fun e w' => ∃ v, e = .returned v ∧ w'.ownsRow w.heap.size 3 1 v m (((M.o.l.drop b).take m).map I) ∧ Kept [] w w' := by
  have hs := h.small
  have hpg := h.pg
  have hcap := h.cap
  have hle := h.len
  have HT := hide (rtable_any h true)
  unfold tabV tabK at HT
  rw [if_pos rfl, if_pos rfl] at HT
  obtain ⟨_, _, q2, _⟩ := h.cells
  have hll : M.o.l.length = M.b.l.length := h.len
  have hv := h.over.vals [] (by simp)
  obtain ⟨n, hn⟩ : ∃ n, M.b.l.length = n := ⟨_, rfl⟩
  obtain ⟨md, hmd⟩ : ∃ m, M.b.d.length = m := ⟨_, rfl⟩
  rw [hn] at HT hs hm hpg hcap hll
  rw [hmd] at q2 hk hpg
  have hm9 : md ≤ 9 := by omega
  have hbn : b < n := by omega
  have hm1 : 1 ≤ m := by omega
  have hbm : b + m ≤ n := by omega
  have hkb : (k : Int) * 15 = (b : Int) := by omega
  obtain ⟨z, hz⟩ : ∃ z : Nat, (k + 1) * 15 = z := ⟨_, rfl⟩
  have hkz : ((k : Int) + 1) * 15 = (z : Int) := by omega
  obtain ⟨e0, he0⟩ : ∃ e0 : Nat, b + m = e0 := ⟨_, rfl⟩
  have hcs : ((n : Int) < (z : Int) ∧ n - b = m) ∨ (¬ (n : Int) < (z : Int) ∧ z - b = m ∧ z ≤ n) := by omega
  have HPV := hide (show Vals (w.alloc (.cells #[] 3)) [] (some ⟨U, b, none⟩) (((M.o.l.drop b).take m).map I) from by
    rw [List.map_take, List.map_drop]
    have h1 := (hv.kept ((Kept.refl [] w).alloc (.cells #[] 3)) (by simp)).cut b m
    have e : (⟨U, 0, none⟩ : Addr).add b = ⟨U, b, none⟩ := by rw [add_mk, Nat.zero_add]
    rw [Option.map_some, e] at h1
    exact h1)
  have HLN := hide (show (((M.o.l.drop b).take m).map I).length = m * 1 from by rw [List.length_map, List.length_take, List.length_drop]; omega)
  have HKA := hide ((Kept.refl [] w).alloc (.cells #[] 3))
  clear h hn hmd hv hle hll hm hpg hb hz he0
  rcases hcs with ⟨hc1, hc2⟩ | ⟨hc1, hc2, hc3⟩ <;> (
    go_enter Try.func50, Try.ntmps50
    go_wp2_with fail
    refine HT.out.mono ?_
    rintro e w' ⟨rfl, rfl⟩
    go_wp2_with fail
    refine (within_yes k 0 ((md : Int) - 1) _ ⟨by omega, by omega⟩).mono ?_
    rintro e w' ⟨rfl, rfl⟩
    have HEM := hide (own_empty0 w 3)
    go_wp2_with (at_builtin; refine wpList_append_vals rfl (.tmp 25) (.tmp 35) 29 rfl w.heap.size 3 (.int .i64 0) 1 8 Try.underlying29 base.int_info rfl (by omega) (.slice (some ⟨w.heap.size, 0, none⟩) 0 0) 0 [] rfl HEM.out [] (some ⟨U, b, none⟩) m (c - b) (((M.o.l.drop b).take m).map I) (by simp [Act.eval] <;> omega) HLN.out HPV.out (oneCell_I _) (by simp only [maxLen]; omega) (by omega) (by simp) ?_; intro v1 w1 hown1 hk1 hat1)
    have HK1 := hide (HKA.out.trans hk1 (by simp [Value.ownBlock]))
    have HOW := hide (show w1.ownsRow w.heap.size 3 1 v1 m (((M.o.l.drop b).take m).map I) from by rw [Nat.zero_add] at hown1; exact hown1)
    clear hown1 hk1 hat1
    go_wp2
    go_ret
    exact ⟨_, rfl, by have h1 := HOW.out; rwa [List.map_take, List.map_drop] at h1, HK1.out⟩)
end
end Go.Proofs.Ytfeepmahipecpaa.im
