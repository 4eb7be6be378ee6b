/- The reference's table: Told. -/
import Derived.Test.YtjcnndnipnkhoaaUsageRefC
import Derived.Test.YtjcnndnipnkhoaaUsageUses
namespace Go.Proofs.Ytjcnndnipnkhoaa.us
set_option linter.unusedSimpArgs false
open Go.RowKit Go.Proofs.Ytjcnndnipnkhoaa.mem Go.Proofs.Ytjcnndnipnkhoaa.base Go.Proofs.Ytjcnndnipnkhoaa.geom

theorem told_next {rs : List Rw} {free : Bool} {k : Nat} {x : Rw} (h : rs[k]? = some x) : (rs.map (tell free)).take (k + 1) = (rs.map (tell free)).take k ++ [tell free x] := by
  rw [List.take_add_one, List.getElem?_map, h]
  rfl
theorem usesOf_snoc (l : List Rw) (x : Rw) : usesOf (l ++ [x]) = usesOf l ++ x.use := by simp [usesOf]

section
variable {w : World} {p U L : Nat} {b s l r q : Int} {rs : List Rw}

set_option maxRecDepth 100000 in
set_option maxHeartbeats 2000000 in
theorem rtold_any (h : RAt w p U L b s l r q rs) (free : Bool) :
    Calls Try.prog 46 #[.pointer (some ⟨p, 0, none⟩), .bool free] w fun e w' => ∃ A c, e = .returned (.slice A rs.length c) ∧ Vals w' [] A (usesOf (rs.map (tell free))) ∧ Kept [] w w' := by
  have H := hide h
  have hb := h.bounds
  obtain ⟨n, hn⟩ : ∃ n, rs.length = n := ⟨_, rfl⟩
  have HN := hide hn
  rw [hn] at hb ⊢
  have c1 := h.c1
  rw [hn] at c1
  clear h hn
  obtain ⟨Bz, hBz⟩ : ∃ Bz, w.heap.size = Bz := ⟨_, rfl⟩
  have HB0 : Hid (w.heap.size = Bz) := hide hBz
  go_enter Try.func46, Try.ntmps46
  go_wp2
  clear c1
  go_loopw [5, 6, 7] (fun v i u wr => ∃ k : Nat, k ≤ n ∧ i = .int .i64 k ∧ Hid (wr.ownsRow Bz 61 2 v k (usesOf ((rs.map (tell free)).take k))) ∧ Hid (Bz ≤ wr.heap.size) ∧ Hid (Kept [] w wr)) (fun v i u _ => n - (intOf i).toNat)
  case atStart => exact ⟨0, Nat.zero_le _, rfl, hide (World.ownsRow_nil _ _ _ _), hide (Nat.le_of_eq hBz.symm), hide (Kept.refl _ _)⟩
  case round =>
    obtain ⟨k, hk, rfl, HO, HZ, HK⟩ := hrel
    have ht := H.out.keep HK.out
    have c1 := ht.c1
    rw [HN.out] at c1
    by_cases hlt : k < n
    · obtain ⟨x, hx⟩ : ∃ x, rs[k]? = some x := ⟨_, List.getElem?_eq_getElem (by rw [HN.out]; exact hlt)⟩
      obtain ⟨d0, d1⟩ := ht.uses hx
      have HTN := hide (told_next (free := free) hx)
      have hka : Kept [] wr (wr.alloc (.cells #[.int .i64 x.s, .int .i64 x.t] 61)) := (Kept.refl [] wr).alloc _
      have hba : Blk (wr.alloc (.cells #[.int .i64 x.s, .int .i64 x.t] 61)) wr.heap.size 61 #[.int .i64 x.s, .int .i64 x.t] := Blk.new _ _ _
      obtain ⟨g, hg⟩ : ∃ g, wr.heap.size = g := ⟨_, rfl⟩
      obtain ⟨w4, hw4⟩ : ∃ w4, wr.alloc (.cells #[.int .i64 x.s, .int .i64 x.t] 61) = w4 := ⟨_, rfl⟩
      rw [hw4] at hka hba
      rw [hg] at hba
      have ht4 := ht.keep hka
      have c4 := ht4.c2
      rw [HN.out] at c4
      have e4 := ht4.live hx
      have a0 : w4.cell? ⟨g, 0, none⟩ = some (.int .i64 x.s) := hba.cell 0
      have a1 : w4.cell? ⟨g, 1, none⟩ = some (.int .i64 x.t) := hba.cell 1
      have fa := hba.frozen 0
      have HK4 := hide (HK.out.trans hka (by simp))
      have HO4 := hide (owns.own_keep HO.out hka (by simp))
      have HZ4 : Hid (Bz ≤ w4.heap.size) := hide (Nat.le_trans HZ.out hka.size)
      have hgB : Bz ≤ g := by rw [← hg]; exact HZ.out
      -- what the round leaves, of any value told
      have fin : ∀ (y : Rw) (w5 : World) (v1 : Value) (w6 : World), tell free x = y → w5.ownsRow Bz 61 2 u5 k (usesOf ((rs.map (tell free)).take k)) → Kept [] w w5 → Bz ≤ w5.heap.size → w6.ownsRow Bz 61 2 v1 (k + 1) (usesOf ((rs.map (tell free)).take k) ++ y.use) → (∀ o : Obj, Kept u5.ownBlock.toList (w5.alloc o) w6 → Hid (w6.ownsRow Bz 61 2 v1 (k + 1) (usesOf ((rs.map (tell free)).take (k + 1)))) ∧ Hid (Bz ≤ w6.heap.size) ∧ Hid (Kept [] w w6)) := fun y w5 v1 w6 hy ho hk5 hz5 ho6 o hk6 => by
        refine ⟨hide ?_, hide ?_, hide (kept_more ho (Nat.le_of_eq HB0.out) (hk5.alloc o) hk6)⟩
        · rw [HTN.out, hy, usesOf_snoc]
          exact ho6
        · have := hk6.size
          simp at this
          omega
      have FIN := hide fin
      have HBA := hide hba
      clear ht hx hka hba ht4 fin
      by_cases hd : free = true ∧ x.dead = true
      · obtain ⟨rfl, hdd⟩ := hd
        have HF : Hid (tell true x = ⟨0, x.t, x.n⟩) := hide (by unfold tell Rw.free; rw [hdd]; rfl)
        simp only [Rw.dead, Bool.and_eq_true, decide_eq_true_eq] at hdd
        obtain ⟨hs, hz⟩ := hdd
        rw [hz] at e4
        have hs2 : (x.s == 2) = true := beq_iff_eq.2 hs
        have hk5 : Kept [g] w4 (w4.setCell ⟨g, 0, none⟩ (.int .i64 0)) := (Kept.refl [g] w4).set_ (.inl (by simp)) _ _
        obtain ⟨w5, hw5⟩ : ∃ w5, w4.setCell ⟨g, 0, none⟩ (.int .i64 0) = w5 := ⟨_, rfl⟩
        have hb5 := HBA.out.set_ 0 (.int .i64 0)
        rw [hw5] at hk5 hb5
        have a0' : w5.cell? ⟨g, 0, none⟩ = some (.int .i64 0) := hb5.cell 0
        have a1' : w5.cell? ⟨g, 1, none⟩ = some (.int .i64 x.t) := hb5.cell 1
        have HO5 := hide (owns.own_keep HO4.out hk5 (fun i hi hm => by
          simp only [List.mem_singleton] at hi
          subst hi
          have := (owns.own_blk HO.out i hm).2.1
          omega))
        have HK5 := hide (HK4.out.trans hk5 (fun i hi => .inr (by simp at hi; have := HB0.out; omega)))
        have HZ5 : Hid (Bz ≤ w5.heap.size) := hide (Nat.le_trans HZ4.out hk5.size)
        clear hk5 hs hz hb5
        go_wp2_with (at_builtin; refine wpList_append_vals rfl (.tmp 41) (.tmp 43) 23 rfl Bz 61 (.agg #[.int .i64 0, .int .i64 0]) 2 16 Try.underlying23 use_info rfl (by omega) u5 k (usesOf ((rs.map (tell true)).take k)) rfl (owns.own_keep HO5.out ((Kept.refl [] w5).alloc _) (by simp)) [] _ 1 1 (Rw.use ⟨0, x.t, x.n⟩) rfl rfl (Vals.new _ [] _ _ (by simp)) (one_use _) (by simp only [maxLen]; omega) (by omega) (by have := HZ5.out; simp; omega) ?_; intro v1 w6 hown1 hk1 hat1)
        obtain ⟨HO6, HZ6, HK6⟩ := FIN.out _ w5 v1 w6 HF.out HO5.out HK5.out HZ5.out hown1 _ hk1
        clear hown1 hk1 hat1 d0 d1 c1 c4 e4 a0 a1 fa a0' a1'
        go_wp2
        go_roundw
        case rel => exact ⟨k + 1, by omega, by go_num, HO6, HZ6, HK6⟩
        case measure => simp [intOf]; omega
      · have HF : Hid (tell free x = x) := hide (by
          unfold tell Rw.free
          cases free
          · rfl
          · have : x.dead = false := by simpa using hd
            rw [this]
            rfl)
        have hg3 : (free = false) ∨ (free = true ∧ (x.s == 2) = false) ∨ (free = true ∧ x.s = 2 ∧ (x.n == 0) = false) := by
          cases free
          · exact .inl rfl
          · by_cases hs : x.s = 2
            · refine .inr (.inr ⟨rfl, hs, beq_eq_false_iff_ne.2 (fun h0 => hd ⟨rfl, by simp [Rw.dead, hs, h0]⟩)⟩)
            · exact .inr (.inl ⟨rfl, beq_eq_false_iff_ne.2 hs⟩)
        clear hd
        rcases hg3 with rfl | ⟨rfl, hs2⟩ | ⟨rfl, hs, hz2⟩
        · go_wp2_with (at_builtin; refine wpList_append_vals rfl (.tmp 41) (.tmp 43) 23 rfl Bz 61 (.agg #[.int .i64 0, .int .i64 0]) 2 16 Try.underlying23 use_info rfl (by omega) u5 k (usesOf ((rs.map (tell false)).take k)) rfl (owns.own_keep HO4.out ((Kept.refl [] w4).alloc _) (by simp)) [] _ 1 1 x.use rfl rfl (Vals.new _ [] _ _ (by simp)) (one_use _) (by simp only [maxLen]; omega) (by omega) (by have := HZ4.out; simp; omega) ?_; intro v1 w6 hown1 hk1 hat1)
          obtain ⟨HO6, HZ6, HK6⟩ := FIN.out _ w4 v1 w6 HF.out HO4.out HK4.out HZ4.out hown1 _ hk1
          clear hown1 hk1 hat1 d0 d1 c1 c4 e4 a0 a1 fa
          go_wp2
          go_roundw
          case rel => exact ⟨k + 1, by omega, by go_num, HO6, HZ6, HK6⟩
          case measure => simp [intOf]; omega
        · go_wp2_with (at_builtin; refine wpList_append_vals rfl (.tmp 41) (.tmp 43) 23 rfl Bz 61 (.agg #[.int .i64 0, .int .i64 0]) 2 16 Try.underlying23 use_info rfl (by omega) u5 k (usesOf ((rs.map (tell true)).take k)) rfl (owns.own_keep HO4.out ((Kept.refl [] w4).alloc _) (by simp)) [] _ 1 1 x.use rfl rfl (Vals.new _ [] _ _ (by simp)) (one_use _) (by simp only [maxLen]; omega) (by omega) (by have := HZ4.out; simp; omega) ?_; intro v1 w6 hown1 hk1 hat1)
          obtain ⟨HO6, HZ6, HK6⟩ := FIN.out _ w4 v1 w6 HF.out HO4.out HK4.out HZ4.out hown1 _ hk1
          clear hown1 hk1 hat1 d0 d1 c1 c4 e4 a0 a1 fa
          go_wp2
          go_roundw
          case rel => exact ⟨k + 1, by omega, by go_num, HO6, HZ6, HK6⟩
          case measure => simp [intOf]; omega
        · have hs3 : (x.s == 2) = true := beq_iff_eq.2 hs
          clear hs
          go_wp2_with (at_builtin; refine wpList_append_vals rfl (.tmp 41) (.tmp 43) 23 rfl Bz 61 (.agg #[.int .i64 0, .int .i64 0]) 2 16 Try.underlying23 use_info rfl (by omega) u5 k (usesOf ((rs.map (tell true)).take k)) rfl (owns.own_keep HO4.out ((Kept.refl [] w4).alloc _) (by simp)) [] _ 1 1 x.use rfl rfl (Vals.new _ [] _ _ (by simp)) (one_use _) (by simp only [maxLen]; omega) (by omega) (by have := HZ4.out; simp; omega) ?_; intro v1 w6 hown1 hk1 hat1)
          obtain ⟨HO6, HZ6, HK6⟩ := FIN.out _ w4 v1 w6 HF.out HO4.out HK4.out HZ4.out hown1 _ hk1
          clear hown1 hk1 hat1 d0 d1 c1 c4 e4 a0 a1 fa
          go_wp2
          go_roundw
          case rel => exact ⟨k + 1, by omega, by go_num, HO6, HZ6, HK6⟩
          case measure => simp [intOf]; omega
    · obtain rfl : k = n := by omega
      rw [List.take_of_length_le (by rw [List.length_map, HN.out]; exact Nat.le_refl _)] at HO
      obtain ⟨A, c, rfl, _, hv⟩ := owns.own_read HO.out
      have HV := hide (hv [] (by simp))
      clear hv
      go_wp2
      go_ret
      exact ⟨A, c, rfl, HV.out, HK.out⟩
end
end Go.Proofs.Ytjcnndnipnkhoaa.us
