/- The reference's image: Lay, Cut, Forget, Commit, Move, Look, Pending. -/
import Derived.Test.YtfeepmahipecpaaImageRefA
namespace Go.Proofs.Ytfeepmahipecpaa.im
set_option linter.unusedSimpArgs false
set_option linter.unusedVariables false
open Go.RowKit Go.Proofs.Ytfeepmahipecpaa.mem Go.Proofs.Ytfeepmahipecpaa.base Go.Proofs.Ytfeepmahipecpaa.pd Go.Proofs.Ytfeepmahipecpaa.owns
theorem laid_snoc (M : Im) (ov : Bool) (pre : List (Nat × Int)) (x : Nat × Int) : M.laid ov (pre ++ [x]) = (M.laid ov pre).put ov (((M.laid ov pre).tb ov).swap x.1 x.2) := by
  unfold Im.laid
  rw [Tb.lay_snoc]
  cases ov <;> rfl
theorem gone_snoc (M : Im) (ov : Bool) (pre : List (Nat × Int)) (x : Nat × Int) : M.gone ov (pre ++ [x]) = if ((M.laid ov pre).tb ov).went x.1 x.2 = 0 then M.gone ov pre else M.gone ov pre ++ [((M.laid ov pre).tb ov).went x.1 x.2] := by
  unfold Im.laid Im.gone
  rw [Tb.lay_snoc]
  cases ov <;> rfl
theorem laid_nil (M : Im) (ov : Bool) : M.laid ov [] = M := by unfold Im.laid; cases ov <;> rfl
theorem gone_nil (M : Im) (ov : Bool) : M.gone ov [] = [] := by unfold Im.gone; cases ov <;> rfl
theorem went_nn (t : Tb) (b : Nat) (r : Int) : 0 ≤ t.went b r := by
  unfold Tb.went
  split
  · exact Int.le_refl _
  · omega
theorem laid_blen (M : Im) (ov : Bool) (xs : List (Nat × Int)) : (M.laid ov xs).b.l.length = M.b.l.length := by
  cases ov
  · exact Tb.lay_len _ _
  · rfl
theorem gone_le (M : Im) (ov : Bool) (xs : List (Nat × Int)) : (M.gone ov xs).length ≤ xs.length := by unfold Im.gone; exact Tb.gone_len _ _
section
variable {w w' : World} {p V U D E c : Nat} {M M' : Im}
theorem rlay_yes (h : RI w p V U D E c M) (ov : Bool) (b : Nat) (a : Int) (hb : b < M.b.l.length) (h1 : 1 ≤ a) (h2 : a < 4096) :
    Calls Try.prog 9 #[.pointer (some ⟨p, 0, none⟩), .bool ov, .int .i64 b, .int .i64 a] w fun e w' => e = .returned (.tuple #[.int .i64 ((M.tb ov).went b a), .bool true]) ∧ RI w' p V U D E c (M.put ov ((M.tb ov).swap b a)) ∧ Kept [V, U, D, E] w w' := by
  obtain ⟨q0, _, _, _⟩ := h.cells
  have hs := h.small
  have HS := hide (rset_any h ov b a hb)
  obtain ⟨n, hn⟩ : ∃ n, M.b.l.length = n := ⟨_, rfl⟩
  rw [hn] at q0 hs hb
  clear h hn
  go_enter Try.func9, Try.ntmps9
  go_wp2_with fail
  refine (within_yes b 0 ((n : Int) - 1) _ ⟨by omega, by omega⟩).mono ?_
  rintro e w' ⟨rfl, rfl⟩
  go_wp2_with fail
  refine (within_yes a 1 4095 _ ⟨by omega, by omega⟩).mono ?_
  rintro e w' ⟨rfl, rfl⟩
  go_wp2_with fail
  refine HS.out.mono ?_
  rintro e w' ⟨rfl, hi, hk⟩
  have HI := hide hi
  have HK := hide hk
  clear hi hk
  go_wp2
  go_ret2
  exact ⟨rfl, HI.out, HK.out⟩
theorem rlay_no (h : RI w p V U D E c M) (ov : Bool) (b a : Int) (hn0 : ¬ ((0 ≤ b ∧ b < M.b.l.length) ∧ (1 ≤ a ∧ a < 4096))) :
    Calls Try.prog 9 #[.pointer (some ⟨p, 0, none⟩), .bool ov, .int .i64 b, .int .i64 a] w fun e w' => e = .returned (.tuple #[.int .i64 0, .bool false]) ∧ w = w' := by
  obtain ⟨q0, _, _, _⟩ := h.cells
  have hs := h.small
  obtain ⟨n, hn⟩ : ∃ n, M.b.l.length = n := ⟨_, rfl⟩
  rw [hn] at q0 hs hn0
  clear h hn
  by_cases hb : 0 ≤ b ∧ b < (n : Int)
  · have ha : ¬ (1 ≤ a ∧ a ≤ 4095) := fun hh => hn0 ⟨hb, by omega⟩
    clear hn0
    go_enter Try.func9, Try.ntmps9
    go_wp2_with fail
    refine (within_yes b 0 ((n : Int) - 1) _ ⟨by omega, by omega⟩).mono ?_
    rintro e w' ⟨rfl, rfl⟩
    go_wp2_with fail
    refine (within_no a 1 4095 _ ha).mono ?_
    rintro e w' ⟨rfl, rfl⟩
    go_wp2
    go_ret2
    exact ⟨rfl, rfl⟩
  · clear hn0
    go_enter Try.func9, Try.ntmps9
    go_wp2_with fail
    refine (within_no b 0 ((n : Int) - 1) _ (by omega)).mono ?_
    rintro e w' ⟨rfl, rfl⟩
    go_wp2
    go_ret2
    exact ⟨rfl, rfl⟩
set_option maxRecDepth 100000 in
theorem rcut_yes (h : RI w p V U D E c M) (ov : Bool) (b n : Nat) (h1 : 1 ≤ n) (hn : b + n ≤ M.b.l.length) :
    Calls Try.prog 12 #[.pointer (some ⟨p, 0, none⟩), .bool ov, .int .i64 b, .int .i64 n] w fun e w' => ∃ v, e = .returned (.tuple #[v, .bool true]) ∧ w'.ownsRow w.heap.size 3 1 v (M.gone ov (likes b 0 n)).length ((M.gone ov (likes b 0 n)).map I) ∧ RI w' p V U D E c (M.laid ov (likes b 0 n)) ∧ Kept [V, U, D, E] w w' := by
  obtain ⟨q0, _, _, _⟩ := h.cells
  have hs := h.small
  have H := hide h
  have HLT := hide h.lt
  have HNN := hide hn
  obtain ⟨N, hN⟩ : ∃ N, M.b.l.length = N := ⟨_, rfl⟩
  have HNE := hide hN
  rw [hN] at q0 hs hn
  have t1 : decide ((n : Int) < 1) = false := decide_eq_false (by omega)
  have t2 : decide ((b : Int) < 0) = false := decide_eq_false (by omega)
  have t3 : decide ((b : Int) > (N : Int) - 1) = false := decide_eq_false (by omega)
  have t4 : decide ((n : Int) > (N : Int) - (b : Int)) = false := decide_eq_false (by omega)
  have HO0 := hide (show w.ownsRow w.heap.size 3 1 (.slice none 0 0) (M.gone ov (likes b 0 0)).length ((M.gone ov (likes b 0 0)).map I) from World.ownsRow_nil _ _ _ _)
  have HR0 := hide (show RI w p V U D E c (M.laid ov (likes b 0 0)) from by rw [show likes b 0 0 = [] from rfl, laid_nil]; exact h)
  clear h hN
  go_enter Try.func12, Try.ntmps12
  go_wp2
  go_loopw [10, 11, 12] (fun l i _ wr => ∃ k : Nat, k ≤ n ∧ i = .int .i64 ((b + k : Nat) : Int) ∧ Hid (wr.ownsRow w.heap.size 3 1 l (M.gone ov (likes b 0 k)).length ((M.gone ov (likes b 0 k)).map I)) ∧ Hid (RI wr p V U D E c (M.laid ov (likes b 0 k))) ∧ Hid (Kept [V, U, D, E] w wr)) (fun _ i _ _ => b + n - (intOf i).toNat)
  case atStart => exact ⟨0, Nat.zero_le _, rfl, HO0, HR0, hide (Kept.refl _ _)⟩
  case round =>
    clear HO0 HR0
    obtain ⟨k, hk, rfl, HO, HR, HK⟩ := hrel
    obtain ⟨A, cc, rfl, _, _⟩ := own_read HO.out
    have HBL := hide (show (M.laid ov (likes b 0 k)).b.l.length = N from by rw [laid_blen]; exact HNE.out)
    obtain ⟨q0, q1, _, _⟩ := HR.out.cells
    rw [HBL.out] at q0 q1
    have hgl : ((M.gone ov (likes b 0 k))).length ≤ 64 := by have := gone_le M ov (likes b 0 k); rw [likes_length] at this; omega
    by_cases hlt : k < n
    · have HST := hide (rset_any HR.out ov (b + k) 0 (by rw [HBL.out]; omega))
      obtain ⟨g, hg⟩ : ∃ g, ((M.laid ov (likes b 0 k)).tb ov).went (b + k) 0 = g := ⟨_, rfl⟩
      have hg0 : 0 ≤ g := by rw [← hg]; exact went_nn _ _ _
      have HG := hide hg
      rw [hg] at HST
      have HSZ := hide HK.out.size
      clear hg
      go_wp2_with fail
      refine HST.out.mono ?_
      rintro e w2 ⟨rfl, hi, hk2⟩
      have HAP := hide (show ∀ i ∈ [V, U, D, E], i ∉ (Value.slice A ((M.gone ov (likes b 0 k))).length cc).ownBlock.toList from fun i hi hm => by have h1 := (own_blk HO.out i hm).1; have h2 := HLT.out i (by simp at hi ⊢; exact .inr hi); omega)
      have HO2 := hide (own_keep HO.out hk2 HAP.out)
      have HI2 := hide (show RI w2 p V U D E c (M.laid ov (likes b 0 (k + 1))) from by rw [likes_succ, laid_snoc]; exact hi)
      have HK2 := hide (HK.out.trans hk2 (fun y hy => .inl hy))
      have HSZ2 := hide HK2.out.size
      clear hi hk2
      by_cases hg1 : g = 0
      · have hd : decide (g > 0) = false := decide_eq_false (by omega)
        have HN := hide (show (M.gone ov (likes b 0 (k + 1))) = (M.gone ov (likes b 0 k)) from by rw [likes_succ, gone_snoc, if_pos (HG.out.trans hg1)])
        clear hg1
        go_wp2
        go_roundw
        case rel => exact ⟨k + 1, by omega, by go_num, by rw [HN.out]; exact HO2, HI2, HK2⟩
        case measure => simp [intOf]; omega
      · have hd : decide (g > 0) = true := decide_eq_true (by omega)
        have HN := hide (show (M.gone ov (likes b 0 (k + 1))) = (M.gone ov (likes b 0 k)) ++ [g] from by rw [likes_succ, gone_snoc, HG.out, if_neg hg1])
        have HOA := hide (fun o : Obj => HO2.out.alloc o)
        clear hg1
        go_wp2_with (at_builtin; refine wpList_append_vals rfl (.tmp 54) (.tmp 56) 29 rfl w.heap.size 3 (.int .i64 0) 1 8 Try.underlying29 base.int_info rfl (by omega) (.slice A (M.gone ov (likes b 0 k)).length cc) (M.gone ov (likes b 0 k)).length ((M.gone ov (likes b 0 k)).map I) rfl (HOA.out _) [] _ 1 1 ([g].map I) rfl (by simp) (base.vals_one _ [] _ _ (by simp)) (oneCell_I _) (by simp only [maxLen]; omega) (by omega) (by have := HSZ2.out; simp; omega) ?_; intro v1 w1 hown1 hk1 hat1)
        have HI3 := hide (HI2.out.kept (((Kept.refl [] w2).alloc _).mono (by simp) |>.trans hk1 (fun y hy => .inl hy)) (fun y hy hm => by have h1 := (own_blk HO2.out y hm).1; have h2 := HLT.out y hy; omega))
        have HK3 := hide ((HK2.out.alloc _).trans hk1 (fun y hy => .inr (own_blk HO2.out y hy).1))
        go_wp2
        go_roundw
        case rel => exact ⟨k + 1, by omega, by go_num, by rw [HN.out, List.map_append, List.length_append]; exact hide hown1, HI3, HK3⟩
        case measure => simp [intOf]; omega
    · obtain rfl : k = n := by omega
      go_wp2
      go_ret2
      exact ⟨_, rfl, HO.out, HR.out, HK.out⟩
set_option maxRecDepth 100000 in
theorem rforget_any (h : RI w p V U D E c M) :
    Calls Try.prog 19 #[.pointer (some ⟨p, 0, none⟩)] w fun e w' => ∃ v, e = .returned v ∧ w'.ownsRow w.heap.size 3 1 v M.forgot.length (M.forgot.map I) ∧ RI w' p V U D E c M.forget ∧ Kept [V, U, D, E] w w' := by
  have hs := h.small
  have H := hide h
  have HLT := hide h.lt
  obtain ⟨n, hN⟩ : ∃ N, M.b.l.length = N := ⟨_, rfl⟩
  have HNE := hide hN
  rw [hN] at hs
  have HO0 := hide (show w.ownsRow w.heap.size 3 1 (.slice none 0 0) (M.gone true (likes 0 (-1) 0)).length ((M.gone true (likes 0 (-1) 0)).map I) from World.ownsRow_nil _ _ _ _)
  have HR0 := hide (show RI w p V U D E c (M.laid true (likes 0 (-1) 0)) from by rw [show likes 0 (-1) 0 = [] from rfl, laid_nil]; exact h)
  unfold Im.forgot Im.forget
  rw [hN]
  clear h hN
  go_enter Try.func19, Try.ntmps19
  go_wp2
  go_loopw [3, 4, 5] (fun l i _ wr => ∃ k : Nat, k ≤ n ∧ i = .int .i64 k ∧ Hid (wr.ownsRow w.heap.size 3 1 l (M.gone true (likes 0 (-1) k)).length ((M.gone true (likes 0 (-1) k)).map I)) ∧ Hid (RI wr p V U D E c (M.laid true (likes 0 (-1) k))) ∧ Hid (Kept [V, U, D, E] w wr)) (fun _ i _ _ => n - (intOf i).toNat)
  case atStart => exact ⟨0, Nat.zero_le _, rfl, HO0, HR0, hide (Kept.refl _ _)⟩
  case round =>
    clear HO0 HR0
    obtain ⟨k, hk, rfl, HO, HR, HK⟩ := hrel
    obtain ⟨A, cc, rfl, _, _⟩ := own_read HO.out
    have HBL := hide (show (M.laid true (likes 0 (-1) k)).b.l.length = n from by rw [laid_blen]; exact HNE.out)
    obtain ⟨q0, q1, _, _⟩ := HR.out.cells
    rw [HBL.out] at q0 q1
    have hgl : ((M.gone true (likes 0 (-1) k))).length ≤ 64 := by have := gone_le M true (likes 0 (-1) k); rw [likes_length] at this; omega
    by_cases hlt : k < n
    · have HST := hide (rset_any HR.out true (k) (-1) (by rw [HBL.out]; omega))
      obtain ⟨g, hg⟩ : ∃ g, ((M.laid true (likes 0 (-1) k)).tb true).went (k) (-1) = g := ⟨_, rfl⟩
      have hg0 : 0 ≤ g := by rw [← hg]; exact went_nn _ _ _
      have HG := hide hg
      rw [hg] at HST
      have HSZ := hide HK.out.size
      clear hg
      go_wp2_with fail
      refine HST.out.mono ?_
      rintro e w2 ⟨rfl, hi, hk2⟩
      have HAP := hide (show ∀ i ∈ [V, U, D, E], i ∉ (Value.slice A ((M.gone true (likes 0 (-1) k))).length cc).ownBlock.toList from fun i hi hm => by have h1 := (own_blk HO.out i hm).1; have h2 := HLT.out i (by simp at hi ⊢; exact .inr hi); omega)
      have HO2 := hide (own_keep HO.out hk2 HAP.out)
      have HI2 := hide (show RI w2 p V U D E c (M.laid true (likes 0 (-1) (k + 1))) from by rw [likes_succ, Nat.zero_add, laid_snoc]; exact hi)
      have HK2 := hide (HK.out.trans hk2 (fun y hy => .inl hy))
      have HSZ2 := hide HK2.out.size
      clear hi hk2
      by_cases hg1 : g = 0
      · have hd : decide (g > 0) = false := decide_eq_false (by omega)
        have HN := hide (show (M.gone true (likes 0 (-1) (k + 1))) = (M.gone true (likes 0 (-1) k)) from by rw [likes_succ, Nat.zero_add, gone_snoc, if_pos (HG.out.trans hg1)])
        clear hg1
        go_wp2
        go_roundw
        case rel => exact ⟨k + 1, by omega, by go_num, by rw [HN.out]; exact HO2, HI2, HK2⟩
        case measure => simp [intOf]; omega
      · have hd : decide (g > 0) = true := decide_eq_true (by omega)
        have HN := hide (show (M.gone true (likes 0 (-1) (k + 1))) = (M.gone true (likes 0 (-1) k)) ++ [g] from by rw [likes_succ, Nat.zero_add, gone_snoc, HG.out, if_neg hg1])
        have HOA := hide (fun o : Obj => HO2.out.alloc o)
        clear hg1
        go_wp2_with (at_builtin; refine wpList_append_vals rfl (.tmp 20) (.tmp 22) 29 rfl w.heap.size 3 (.int .i64 0) 1 8 Try.underlying29 base.int_info rfl (by omega) (.slice A (M.gone true (likes 0 (-1) k)).length cc) (M.gone true (likes 0 (-1) k)).length ((M.gone true (likes 0 (-1) k)).map I) rfl (HOA.out _) [] _ 1 1 ([g].map I) rfl (by simp) (base.vals_one _ [] _ _ (by simp)) (oneCell_I _) (by simp only [maxLen]; omega) (by omega) (by have := HSZ2.out; simp; omega) ?_; intro v1 w1 hown1 hk1 hat1)
        have HI3 := hide (HI2.out.kept (((Kept.refl [] w2).alloc _).mono (by simp) |>.trans hk1 (fun y hy => .inl hy)) (fun y hy hm => by have h1 := (own_blk HO2.out y hm).1; have h2 := HLT.out y hy; omega))
        have HK3 := hide ((HK2.out.alloc _).trans hk1 (fun y hy => .inr (own_blk HO2.out y hy).1))
        go_wp2
        go_roundw
        case rel => exact ⟨k + 1, by omega, by go_num, by rw [HN.out, List.map_append, List.length_append]; exact hide hown1, HI3, HK3⟩
        case measure => simp [intOf]; omega
    · obtain rfl : k = n := by omega
      go_wp2
      go_ret
      exact ⟨_, rfl, HO.out, HR.out, HK.out⟩

theorem rcut_no (h : RI w p V U D E c M) (ov : Bool) (b n : Int) (hn0 : ¬ (0 ≤ b ∧ 1 ≤ n ∧ n ≤ M.b.l.length - b)) (hr : -9223372036854775808 ≤ b ∧ b ≤ 9223372036854775807) :
    Calls Try.prog 12 #[.pointer (some ⟨p, 0, none⟩), .bool ov, .int .i64 b, .int .i64 n] w fun e w' => e = .returned (.tuple #[.slice none 0 0, .bool false]) ∧ w = w' := by
  obtain ⟨q0, _, _, _⟩ := h.cells
  have hs := h.small
  obtain ⟨N, hN⟩ : ∃ N, M.b.l.length = N := ⟨_, rfl⟩
  rw [hN] at q0 hs hn0
  clear h hN
  by_cases h1 : n < 1
  · have t1 : decide (n < 1) = true := decide_eq_true h1
    clear hn0
    go_enter Try.func12, Try.ntmps12
    go_wp2
    go_ret2
    exact ⟨rfl, rfl⟩
  have t1 : decide (n < 1) = false := decide_eq_false h1
  by_cases h2 : b < 0
  · have t2 : decide (b < 0) = true := decide_eq_true h2
    clear hn0 h1
    go_enter Try.func12, Try.ntmps12
    go_wp2
    go_ret2
    exact ⟨rfl, rfl⟩
  have t2 : decide (b < 0) = false := decide_eq_false h2
  by_cases h3 : b > (N : Int) - 1
  · have t3 : decide (b > (N : Int) - 1) = true := decide_eq_true h3
    clear hn0 h1 h2
    go_enter Try.func12, Try.ntmps12
    go_wp2
    go_ret2
    exact ⟨rfl, rfl⟩
  have t3 : decide (b > (N : Int) - 1) = false := decide_eq_false h3
  have t4 : decide (n > (N : Int) - b) = true := decide_eq_true (by omega)
  have hb1 : 0 ≤ b := by omega
  have hb2 : b ≤ 64 := by omega
  clear hn0 h1 h2 h3
  go_enter Try.func12, Try.ntmps12
  go_wp2
  go_ret2
  exact ⟨rfl, rfl⟩
/-- Refs that may stand. -/
def Gd (M : Im) : Prop := (∀ j, j < M.b.l.length → 0 ≤ M.b.l.getD j 0) ∧ ∀ j, j < M.o.l.length → -1 ≤ M.o.l.getD j 0
/-- Commit, so far. -/
def cmt (M : Im) (i : Nat) : Im := ⟨(M.b.lay (unt (placed M.o.l i))).1, (M.o.lay (likes 0 (-1) i)).1⟩
def cmg (M : Im) (i : Nat) : List Int := (M.b.lay (unt (placed M.o.l i))).2
theorem cmt_zero (M : Im) : cmt M 0 = M ∧ cmg M 0 = [] := ⟨rfl, rfl⟩
theorem cmt_end (h : M.o.l.length = M.b.l.length) : cmt M M.b.l.length = M.commit ∧ cmg M M.b.l.length = M.went := by
  have e : pendL M.o.l = unt (placed M.o.l M.b.l.length) := by unfold pendL; rw [h]
  refine ⟨?_, ?_⟩
  · unfold Im.commit Im.forget
    have h1 : M.stood.b.l.length = M.b.l.length := by show (M.b.lay _).1.l.length = _; exact Tb.lay_len _ _
    rw [h1]
    unfold cmt Im.stood Im.laid
    rw [e]
    rfl
  · unfold cmg Im.went Im.gone
    rw [e]
    rfl
theorem cmt_blen (M : Im) (i : Nat) : (cmt M i).b.l.length = M.b.l.length := Tb.lay_len _ _
theorem cmt_o (M : Im) (i : Nat) (hi : i < M.o.l.length) : (cmt M i).o.l.getD i 0 = M.o.l.getD i 0 := by
  show (M.o.lay (likes 0 (-1) i)).1.l.getD i 0 = _
  rw [likes_get _ _ _ _ _ hi, if_neg (by omega)]
theorem cmt_no (M : Im) (i : Nat) (hi : i < M.o.l.length) (ho : M.o.l.getD i 0 = -1) : cmt M (i + 1) = cmt M i ∧ cmg M (i + 1) = cmg M i := by
  have hx : M.o.l[i]? = some (-1) := by rw [getD_of hi, ho]
  have e : unt (placed M.o.l (i + 1)) = unt (placed M.o.l i) := by rw [placed_succ _ _ _ hx]; exact unt_no (by simp)
  unfold cmt cmg
  rw [e, likes_succ, Tb.lay_snoc]
  refine ⟨?_, rfl⟩
  show (⟨_, ((M.o.lay (likes 0 (-1) i)).1.swap (0 + i) (-1))⟩ : Im) = _
  rw [Nat.zero_add, Tb.swap_same (M.o.lay (likes 0 (-1) i)).1 i (by rw [Tb.lay_len]; exact hi) (-1) ((cmt_o M i hi).trans ho)]
theorem cmt_yes (M : Im) (i : Nat) (hi : i < M.o.l.length) (x : Int) (ho : M.o.l.getD i 0 = x) (hx1 : x ≠ -1) : cmt M (i + 1) = (((cmt M i).put false ((cmt M i).b.swap i x)).put true ((cmt M i).o.swap i (-1))) ∧ cmg M (i + 1) = if (cmt M i).b.went i x = 0 then cmg M i else cmg M i ++ [(cmt M i).b.went i x] := by
  have hx : M.o.l[i]? = some x := by rw [getD_of hi, ho]
  have e : unt (placed M.o.l (i + 1)) = unt (placed M.o.l i) ++ [(i, x)] := by rw [placed_succ _ _ _ hx]; exact unt_yes (by simpa using hx1)
  unfold cmt cmg
  rw [e, likes_succ, Tb.lay_snoc, Tb.lay_snoc, Nat.zero_add]
  exact ⟨rfl, rfl⟩
set_option maxRecDepth 100000 in
theorem rcommit_any (h : RI w p V U D E c M) (hgd : Gd M) :
    Calls Try.prog 17 #[.pointer (some ⟨p, 0, none⟩)] w fun e w' => ∃ v, e = .returned v ∧ w'.ownsRow w.heap.size 3 1 v M.went.length (M.went.map I) ∧ RI w' p V U D E c M.commit ∧ Kept [V, U, D, E] w w' := by
  have hs := h.small
  have HLT := hide h.lt
  have HGD := hide hgd
  have HLE := hide h.len
  have HEND := hide (cmt_end h.len)
  obtain ⟨n, hN⟩ : ∃ N, M.b.l.length = N := ⟨_, rfl⟩
  have HNE := hide hN
  rw [hN] at hs HEND HLE
  rw [← HEND.out.1, ← HEND.out.2]
  have HO0 := hide (show w.ownsRow w.heap.size 3 1 (.slice none 0 0) (cmg M 0).length ((cmg M 0).map I) from World.ownsRow_nil _ _ _ _)
  have HR0 := hide (show RI w p V U D E c (cmt M 0) from by rw [(cmt_zero M).1]; exact h)
  clear h hN hgd
  go_enter Try.func17, Try.ntmps17
  go_wp2
  go_loopw [3, 4, 5] (fun l i _ wr => ∃ k : Nat, k ≤ n ∧ i = .int .i64 k ∧ Hid (wr.ownsRow w.heap.size 3 1 l (cmg M k).length ((cmg M k).map I)) ∧ Hid (RI wr p V U D E c (cmt M k)) ∧ (cmg M k).length ≤ k ∧ Hid (Kept [V, U, D, E] w wr)) (fun _ i _ _ => n - (intOf i).toNat)
  case atStart => exact ⟨0, Nat.zero_le _, rfl, HO0, HR0, Nat.le_refl _, hide (Kept.refl _ _)⟩
  case round =>
    clear HO0 HR0
    obtain ⟨k, hk, rfl, HO, HR, hgl, HK⟩ := hrel
    obtain ⟨A, cc, rfl, _, _⟩ := own_read HO.out
    have HBL := hide (show (cmt M k).b.l.length = n from (cmt_blen M k).trans HNE.out)
    obtain ⟨q0, q1, _, _⟩ := HR.out.cells
    rw [HBL.out] at q0 q1
    by_cases hlt : k < n
    · have hko : k < M.o.l.length := by rw [HLE.out]; exact hlt
      have c1 := HR.out.over.cell (j := k) (by rw [HR.out.len, HBL.out]; exact hlt)
      rw [cmt_o M k hko] at c1
      have hgk := HGD.out.2 k hko
      obtain ⟨y, hy⟩ : ∃ y, M.o.l.getD k 0 = y := ⟨_, rfl⟩
      rw [hy] at c1 hgk
      by_cases hy0 : y = -1
      · have hd : decide (y < 0) = true := decide_eq_true (by omega)
        obtain ⟨e1, e2⟩ := cmt_no M k hko (hy.trans hy0)
        have HE := hide (And.intro e1 e2)
        clear hy hy0 hgk hko e1 e2
        go_wp2
        go_roundw
        case rel => exact ⟨k + 1, by omega, by go_num, by rw [HE.out.2]; exact HO, by rw [HE.out.1]; exact HR, by rw [HE.out.2]; omega, HK⟩
        case measure => simp [intOf]; omega
      · have hd : decide (y < 0) = false := decide_eq_false (by omega)
        obtain ⟨e1, e2⟩ := cmt_yes M k hko y hy hy0
        have HE := hide (And.intro e1 e2)
        have HST := hide (rset_any HR.out false k y (by rw [HBL.out]; exact hlt))
        obtain ⟨g, hg⟩ : ∃ g, ((cmt M k).tb false).went k y = g := ⟨_, rfl⟩
        have hg0 : 0 ≤ g := by rw [← hg]; exact went_nn _ _ _
        have HG := hide (show (cmt M k).b.went k y = g from hg)
        rw [hg] at HST
        have HSZ := hide HK.out.size
        clear hy hy0 hgk hko e1 e2 hg
        go_wp2_with fail
        refine HST.out.mono ?_
        rintro e w2 ⟨rfl, hi, hk2⟩
        have HAP := hide (show ∀ i ∈ [V, U, D, E], i ∉ (Value.slice A (cmg M k).length cc).ownBlock.toList from fun i hi hm => by have h1 := (own_blk HO.out i hm).1; have h2 := HLT.out i (by simp at hi ⊢; exact .inr hi); omega)
        have HO2 := hide (own_keep HO.out hk2 HAP.out)
        have HI2 := hide (show RI w2 p V U D E c ((cmt M k).put false ((cmt M k).b.swap k y)) from hi)
        have HK2 := hide (HK.out.trans hk2 (fun y hy => .inl hy))
        have HB2 := hide (show ((cmt M k).put false ((cmt M k).b.swap k y)).b.l.length = n from (Tb.swap_len _ _ _).trans HBL.out)
        clear hi hk2 q0 q1 c1
        go_wp2_with fail
        refine (rset_any HI2.out true k (-1) (by rw [HB2.out]; exact hlt)).mono ?_
        rintro e w3 ⟨rfl, hi, hk3⟩
        have HO3 := hide (own_keep HO2.out hk3 HAP.out)
        have HI3 := hide (show RI w3 p V U D E c (cmt M (k + 1)) from by rw [HE.out.1]; exact hi)
        have HK3 := hide (HK2.out.trans hk3 (fun y hy => .inl hy))
        have HSZ2 := hide HK3.out.size
        clear hi hk3
        by_cases hg1 : g = 0
        · have hd2 : decide (g > 0) = false := decide_eq_false (by omega)
          have HN := hide (show cmg M (k + 1) = cmg M k from by rw [HE.out.2, if_pos (HG.out.trans hg1)])
          clear hg1
          go_wp2
          go_roundw
          case rel => exact ⟨k + 1, by omega, by go_num, by rw [HN.out]; exact HO3, HI3, by rw [HN.out]; omega, HK3⟩
          case measure => simp [intOf]; omega
        · have hd2 : decide (g > 0) = true := decide_eq_true (by omega)
          have HN := hide (show cmg M (k + 1) = cmg M k ++ [g] from by rw [HE.out.2, HG.out, if_neg hg1])
          have HOA := hide (fun o : Obj => HO3.out.alloc o)
          clear hg1
          go_wp2_with (at_builtin; refine wpList_append_vals rfl (.tmp 38) (.tmp 40) 29 rfl w.heap.size 3 (.int .i64 0) 1 8 Try.underlying29 base.int_info rfl (by omega) (.slice A (cmg M k).length cc) (cmg M k).length ((cmg M k).map I) rfl (HOA.out _) [] _ 1 1 ([g].map I) rfl (by simp) (base.vals_one _ [] _ _ (by simp)) (oneCell_I _) (by simp only [maxLen]; omega) (by omega) (by have := HSZ2.out; simp; omega) ?_; intro v1 w1 hown1 hk1 hat1)
          have HI4 := hide (HI3.out.kept (((Kept.refl [] w3).alloc _).mono (by simp) |>.trans hk1 (fun y hy => .inl hy)) (fun y hy hm => by have h1 := (own_blk HO3.out y hm).1; have h2 := HLT.out y hy; omega))
          have HK4 := hide ((HK3.out.alloc _).trans hk1 (fun y hy => .inr (own_blk HO3.out y hy).1))
          go_wp2
          go_roundw
          case rel => exact ⟨k + 1, by omega, by go_num, by rw [HN.out, List.map_append, List.length_append]; exact hide hown1, HI4, by rw [HN.out, List.length_append]; simp; omega, HK4⟩
          case measure => simp [intOf]; omega
    · obtain rfl : k = n := by omega
      go_wp2
      go_ret
      exact ⟨_, rfl, HO.out, HR.out, HK.out⟩
theorem rmove_bad (h : RI w p V U D E c M) (b old a : Int) (hn0 : ¬ ((0 ≤ b ∧ b < M.b.l.length) ∧ (1 ≤ a ∧ a < 4096) ∧ 1 ≤ old)) :
    Calls Try.prog 21 #[.pointer (some ⟨p, 0, none⟩), .int .i64 b, .int .i64 old, .int .i64 a] w fun e w' => e = .returned (.bool false) ∧ w = w' := by
  obtain ⟨q0, _, _, _⟩ := h.cells
  have hs := h.small
  obtain ⟨n, hn⟩ : ∃ n, M.b.l.length = n := ⟨_, rfl⟩
  rw [hn] at q0 hs hn0
  clear h hn
  by_cases hb : 0 ≤ b ∧ b < (n : Int)
  · by_cases ha : 1 ≤ a ∧ a ≤ 4095
    · have hd : decide (old < 1) = true := decide_eq_true (by omega)
      clear hn0
      go_enter Try.func21, Try.ntmps21
      go_wp2_with fail
      refine (within_yes b 0 ((n : Int) - 1) _ ⟨by omega, by omega⟩).mono ?_
      rintro e w' ⟨rfl, rfl⟩
      go_wp2_with fail
      refine (within_yes a 1 4095 _ ha).mono ?_
      rintro e w' ⟨rfl, rfl⟩
      go_wp2
      go_ret
      exact ⟨rfl, rfl⟩
    · clear hn0
      go_enter Try.func21, Try.ntmps21
      go_wp2_with fail
      refine (within_yes b 0 ((n : Int) - 1) _ ⟨by omega, by omega⟩).mono ?_
      rintro e w' ⟨rfl, rfl⟩
      go_wp2_with fail
      refine (within_no a 1 4095 _ ha).mono ?_
      rintro e w' ⟨rfl, rfl⟩
      go_wp2
      go_ret
      exact ⟨rfl, rfl⟩
  · clear hn0
    go_enter Try.func21, Try.ntmps21
    go_wp2_with fail
    refine (within_no b 0 ((n : Int) - 1) _ (by omega)).mono ?_
    rintro e w' ⟨rfl, rfl⟩
    go_wp2
    go_ret
    exact ⟨rfl, rfl⟩
set_option maxRecDepth 100000 in
theorem rmove_in (h : RI w p V U D E c M) (b : Nat) (old a : Int) (ho : 1 ≤ old) (h1 : 1 ≤ a) (h2 : a < 4096) (hb : b < M.b.l.length) :
    Calls Try.prog 21 #[.pointer (some ⟨p, 0, none⟩), .int .i64 b, .int .i64 old, .int .i64 a] w fun e w' => e = .returned (.bool (M.move b old a).2) ∧ RI w' p V U D E c (M.move b old a).1 ∧ Kept [V, U, D, E] w w' := by
  obtain ⟨q0, q1, _, _⟩ := h.cells
  have hs := h.small
  have c0 := h.base.cell hb
  have c1 := h.over.cell (j := b) (by rw [h.len]; exact hb)
  have hd0 : decide (old < 1) = false := decide_eq_false (by omega)
  have HS1 := hide (rset_any h false b a hb)
  have HS2 := hide (rset_any h true b a hb)
  have H := hide h
  obtain ⟨x, hx⟩ : ∃ x, M.b.l.getD b 0 = x := ⟨_, rfl⟩
  obtain ⟨y, hy⟩ : ∃ y, M.o.l.getD b 0 = y := ⟨_, rfl⟩
  obtain ⟨n, hn⟩ : ∃ n, M.b.l.length = n := ⟨_, rfl⟩
  rw [hx] at c0
  rw [hy] at c1
  rw [hn] at q0 q1 hs hb
  unfold Im.move
  rw [hx, hy]
  clear h hx hy hn
  by_cases hq : x = old
  · rw [if_pos hq]
    have hd1 : (x == old) = true := beq_iff_eq.2 hq
    clear hq
    go_enter Try.func21, Try.ntmps21
    go_wp2_with fail
    refine (within_yes b 0 ((n : Int) - 1) _ ⟨by omega, by omega⟩).mono ?_
    rintro e w' ⟨rfl, rfl⟩
    go_wp2_with fail
    refine (within_yes a 1 4095 _ ⟨by omega, by omega⟩).mono ?_
    rintro e w' ⟨rfl, rfl⟩
    go_wp2_with fail
    refine HS1.out.mono ?_
    rintro e w' ⟨rfl, hi, hk⟩
    have HI := hide hi
    have HK := hide hk
    clear hi hk
    go_wp2
    go_ret
    exact ⟨rfl, HI.out, HK.out⟩
  · rw [if_neg hq]
    have hd1 : (x == old) = false := beq_eq_false_iff_ne.2 hq
    clear hq
    by_cases hr : y = old
    · rw [if_pos hr]
      have hd2 : (y == old) = true := beq_iff_eq.2 hr
      clear hr
      go_enter Try.func21, Try.ntmps21
      go_wp2_with fail
      refine (within_yes b 0 ((n : Int) - 1) _ ⟨by omega, by omega⟩).mono ?_
      rintro e w' ⟨rfl, rfl⟩
      go_wp2_with fail
      refine (within_yes a 1 4095 _ ⟨by omega, by omega⟩).mono ?_
      rintro e w' ⟨rfl, rfl⟩
      go_wp2_with fail
      refine HS2.out.mono ?_
      rintro e w' ⟨rfl, hi, hk⟩
      have HI := hide hi
      have HK := hide hk
      clear hi hk
      go_wp2
      go_ret
      exact ⟨rfl, HI.out, HK.out⟩
    · rw [if_neg hr]
      have hd2 : (y == old) = false := beq_eq_false_iff_ne.2 hr
      clear hr
      go_enter Try.func21, Try.ntmps21
      go_wp2_with fail
      refine (within_yes b 0 ((n : Int) - 1) _ ⟨by omega, by omega⟩).mono ?_
      rintro e w' ⟨rfl, rfl⟩
      go_wp2_with fail
      refine (within_yes a 1 4095 _ ⟨by omega, by omega⟩).mono ?_
      rintro e w' ⟨rfl, rfl⟩
      go_wp2
      go_ret
      exact ⟨rfl, H.out, Kept.refl _ _⟩
theorem rlook_yes (h : RI w p V U D E c M) (hg : Gd M) (b : Nat) (hb : b < M.b.l.length) :
    Calls Try.prog 54 #[.pointer (some ⟨p, 0, none⟩), .int .i64 b] w fun e w' => e = .returned (.tuple #[.int .i64 (if M.o.l.getD b 0 = -1 then M.b.l.getD b 0 else M.o.l.getD b 0), .bool true]) ∧ w = w' := by
  obtain ⟨q0, q1, _, _⟩ := h.cells
  have hs := h.small
  have c0 := h.base.cell hb
  have c1 := h.over.cell (j := b) (by rw [h.len]; exact hb)
  have hgo := hg.2 b (by rw [h.len]; exact hb)
  obtain ⟨x, hx⟩ : ∃ x, M.b.l.getD b 0 = x := ⟨_, rfl⟩
  obtain ⟨y, hy⟩ : ∃ y, M.o.l.getD b 0 = y := ⟨_, rfl⟩
  obtain ⟨n, hn⟩ : ∃ n, M.b.l.length = n := ⟨_, rfl⟩
  rw [hx] at c0 ⊢
  rw [hy] at c1 hgo ⊢
  rw [hn] at q0 q1 hs hb
  clear h hg hx hy hn
  by_cases hq : y = -1
  · rw [if_pos hq]
    have hd1 : decide (y ≥ 0) = false := decide_eq_false (by omega)
    clear hq hgo
    go_enter Try.func54, Try.ntmps54
    go_wp2_with fail
    refine (within_yes b 0 ((n : Int) - 1) _ ⟨by omega, by omega⟩).mono ?_
    rintro e w' ⟨rfl, rfl⟩
    go_wp2
    go_ret2
    exact ⟨rfl, rfl⟩
  · rw [if_neg hq]
    have hd1 : decide (y ≥ 0) = true := decide_eq_true (by omega)
    clear hq hgo
    go_enter Try.func54, Try.ntmps54
    go_wp2_with fail
    refine (within_yes b 0 ((n : Int) - 1) _ ⟨by omega, by omega⟩).mono ?_
    rintro e w' ⟨rfl, rfl⟩
    go_wp2
    go_ret2
    exact ⟨rfl, rfl⟩
set_option maxRecDepth 100000 in
theorem rpending_any (h : RI w p V U D E c M) (hg : Gd M) :
    Calls Try.prog 55 #[.pointer (some ⟨p, 0, none⟩)] w fun e w' => e = .returned (.int .i64 (pendL M.o.l).length) ∧ w = w' := by
  have H := hide h
  have HG := hide hg
  have hs := h.small
  obtain ⟨q0, q1, _, _⟩ := h.cells
  have HLE := hide h.len
  obtain ⟨n, hn⟩ : ∃ n, M.b.l.length = n := ⟨_, rfl⟩
  rw [hn] at q0 q1 hs HLE
  rw [show pendL M.o.l = unt (placed M.o.l n) from by unfold pendL; rw [HLE.out]]
  clear h hg hn
  go_enter Try.func55, Try.ntmps55
  go_wp2
  go_loopw [3, 4] (fun q i wr => ∃ k : Nat, k ≤ n ∧ i = .int .i64 k ∧ q = .int .i64 (unt (placed M.o.l k)).length ∧ (unt (placed M.o.l k)).length ≤ k ∧ wr = w) (fun _ i _ => n - (intOf i).toNat)
  case atStart => exact ⟨0, Nat.zero_le _, rfl, rfl, by simp [unt, placed], rfl⟩
  case round =>
    obtain ⟨k, hk, rfl, rfl, hle, rfl⟩ := hrel
    by_cases hlt : k < n
    · have hko : k < M.o.l.length := by rw [HLE.out]; exact hlt
      have c1 := H.out.over.cell hko
      have hgk := HG.out.2 k hko
      obtain ⟨y, hy⟩ : ∃ y, M.o.l.getD k 0 = y := ⟨_, rfl⟩
      have hx : M.o.l[k]? = some y := by rw [getD_of hko, hy]
      have HX := hide hx
      rw [hy] at c1 hgk
      clear hx hy hko
      obtain ⟨q, hq⟩ : ∃ q, (unt (placed M.o.l k)).length = q := ⟨_, rfl⟩
      have HQ := hide hq
      rw [hq] at hle ⊢
      clear hq
      by_cases hy0 : y = -1
      · have hd : decide (y ≥ 0) = false := decide_eq_false (by omega)
        have HN := hide (show (unt (placed M.o.l (k + 1))).length = q from by rw [placed_succ _ _ _ HX.out, unt_no (by simp [hy0])]; exact HQ.out)
        clear hy0 hgk
        go_wp2
        go_roundw
        case rel => exact ⟨k + 1, by omega, by go_num, by rw [HN.out], by rw [HN.out]; omega, trivial⟩
        case measure => simp [intOf]; omega
      · have hd : decide (y ≥ 0) = true := decide_eq_true (by omega)
        have HN := hide (show (unt (placed M.o.l (k + 1))).length = q + 1 from by rw [placed_succ _ _ _ HX.out, unt_yes (by simpa using hy0), List.length_append, HQ.out]; rfl)
        clear hy0 hgk
        go_wp2
        go_roundw
        case rel => exact ⟨k + 1, by omega, by go_num, by rw [HN.out]; go_num, by rw [HN.out]; omega, trivial⟩
        case measure => simp [intOf]; omega
    · obtain rfl : k = n := by omega
      go_wp2
      go_ret
      exact ⟨rfl, rfl⟩
end
end Go.Proofs.Ytfeepmahipecpaa.im
