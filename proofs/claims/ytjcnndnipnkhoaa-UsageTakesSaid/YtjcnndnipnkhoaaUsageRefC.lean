/- The reference's table: Sealed, Release. -/
import Derived.Test.YtjcnndnipnkhoaaUsageRefA
import Derived.Test.YtjcnndnipnkhoaaUsageFrees
namespace Go.Proofs.Ytjcnndnipnkhoaa.us
set_option linter.unusedSimpArgs false
open Go.RowKit Go.Proofs.Ytjcnndnipnkhoaa.mem Go.Proofs.Ytjcnndnipnkhoaa.base Go.Proofs.Ytjcnndnipnkhoaa.geom

theorem kept_more {w wm w1 : World} {S : List Nat} {base : Nat} {e : TypeId} {sz : Nat} {v : Value} {n : Nat} {xs : List Value} {wr : World} (h : wr.ownsRow base e sz v n xs) (hb : w.heap.size ≤ base) (h1 : Kept S w wm) (h2 : Kept v.ownBlock.toList wm w1) : Kept S w w1 :=
  h1.trans h2 (fun i hi => .inr (Nat.le_trans hb (owns.own_blk h i hi).1))
theorem one_I (x : Int) : ∀ u ∈ ([x].map I : List Value), u.oneCell' = true := by intro u hu; simp at hu; subst hu; rfl
theorem one_use (x : Rw) : ∀ u ∈ x.use, u.oneCell' = true := by
  intro u hu
  simp only [Rw.use, List.mem_cons, List.not_mem_nil, or_false] at hu
  rcases hu with rfl | rfl <;> rfl

section
variable {w : World} {p U L : Nat} {b s l r q : Int} {rs : List Rw}

set_option maxRecDepth 100000 in
set_option maxHeartbeats 1000000 in
theorem rsealed_any (h : RAt w p U L b s l r q rs) :
    Calls Try.prog 47 #[.pointer (some ⟨p, 0, none⟩)] w fun e w' => ∃ A c, e = .returned (.slice A (inState rs 2 rs.length).length c) ∧ (∀ S : List Nat, (∀ i ∈ S, i < w.heap.size) → Vals w' S A ((inState rs 2 rs.length).map I)) ∧ Kept [] w w' := by
  have H := hide h
  have hb := h.bounds
  obtain ⟨n, hn⟩ : ∃ n, rs.length = n := ⟨_, rfl⟩
  have HN := hide hn
  rw [hn] at hb ⊢
  have c1 := h.c1
  rw [hn] at c1
  clear h hn
  obtain ⟨Bz, hBz⟩ : ∃ Bz, w.heap.size = Bz := ⟨_, rfl⟩
  have HB0 : Hid (w.heap.size = Bz) := hide hBz
  go_enter Try.func47, Try.ntmps47
  go_wp2
  clear c1
  go_loopw [3, 4] (fun v i wr => ∃ k : Nat, k ≤ n ∧ i = .int .i64 k ∧ Hid (wr.ownsRow Bz 3 1 v (inState rs 2 k).length ((inState rs 2 k).map I)) ∧ Hid (Bz ≤ wr.heap.size) ∧ Hid (Kept [] w wr)) (fun v i _ => n - (intOf i).toNat)
  case atStart => exact ⟨0, Nat.zero_le _, rfl, hide (World.ownsRow_nil _ _ _ _), hide (Nat.le_of_eq hBz.symm), hide (Kept.refl _ _)⟩
  case round =>
    obtain ⟨k, hk, rfl, HO, HZ, HK⟩ := hrel
    have ht := H.out.keep HK.out
    have c1 := ht.c1
    rw [HN.out] at c1
    by_cases hlt : k < n
    · obtain ⟨x, hx⟩ : ∃ x, rs[k]? = some x := ⟨_, List.getElem?_eq_getElem (by rw [HN.out]; exact hlt)⟩
      obtain ⟨d0, d1⟩ := ht.uses hx
      have hle := inState_length rs 2 k
      by_cases hs : x.s = 2
      · have HS := hide (inState_yes hx hs)
        rw [hs] at d0
        obtain ⟨m, hm⟩ : ∃ m, (inState rs 2 k).length = m := ⟨_, rfl⟩
        have HM := hide hm
        rw [hm] at HO hle
        clear ht hx hs hm
        go_wp2_with (at_builtin; refine wpList_append_vals rfl (.tmp 23) (.tmp 25) 48 rfl Bz 3 (.int .i64 0) 1 8 Try.underlying48 int_info rfl (by omega) u3 m ((inState rs 2 k).map I) rfl (owns.own_keep HO.out ((Kept.refl [] wr).alloc _) (by simp)) [] _ 1 1 ([(k : Int)].map I) rfl (by simp) (vals_one wr [] _ _ (by simp)) (one_I k) (by simp only [maxLen]; omega) (by omega) (by have := HZ.out; simp; omega) ?_; intro v1 w1 hown1 hk1 hat1)
        have HK4 := hide (kept_more HO.out (Nat.le_of_eq HB0.out) (HK.out.alloc (.cells #[.int .i64 k] 3)) hk1)
        have HZ4 : Hid (Bz ≤ w1.heap.size) := hide (by have h1 := HZ.out; have h2 := hk1.size; simp at h2; omega)
        have HO4 : Hid (w1.ownsRow Bz 3 1 v1 (inState rs 2 (k + 1)).length ((inState rs 2 (k + 1)).map I)) := hide (by
          rw [HS.out, List.map_append, List.length_append, HM.out]
          exact hown1)
        clear hown1 hk1 hat1 d0 d1 c1
        go_wp2
        go_roundw
        case rel => exact ⟨k + 1, by omega, by go_num, HO4, HZ4, HK4⟩
        case measure => simp [intOf]; omega
      · have HS := hide (inState_no hx hs)
        have he : (x.s == 2) = false := beq_eq_false_iff_ne.2 hs
        clear ht hx hs
        go_wp2
        go_roundw
        case rel => exact ⟨k + 1, by omega, by go_num, by rw [HS.out]; exact HO, HZ, HK⟩
        case measure => simp [intOf]; omega
    · obtain rfl : k = n := by omega
      obtain ⟨A, c, rfl, _, hv⟩ := owns.own_read HO.out
      have HV := hide hv
      clear hv
      go_wp2
      go_ret
      exact ⟨A, c, rfl, fun S hS => HV.out S (fun i hi => .inl (by have := hS i hi; have := HB0.out; omega)), HK.out⟩
end

theorem rel_yes {rs : List Rw} {k : Nat} {x : Rw} (h : rs[k]? = some x) (hd : x.dead = true) : relRows rs (inState rs 2 (k + 1)) = (relRows rs (inState rs 2 k)).set k x.free := by
  have hk := (List.getElem?_eq_some_iff.1 h).1
  rw [inState_yes h (Rw.dead_s hd), relRows_snoc]
  exact upd_yes (by rw [relRows_to rs k (by omega), if_neg (by omega)]; exact h) _
theorem rel_no {rs : List Rw} {k : Nat} {x : Rw} (h : rs[k]? = some x) (hd : x.dead = false) : relRows rs (inState rs 2 (k + 1)) = relRows rs (inState rs 2 k) := by
  have hk := (List.getElem?_eq_some_iff.1 h).1
  have hx : (relRows rs (inState rs 2 k))[k]? = some x := by rw [relRows_to rs k (by omega), if_neg (by omega)]; exact h
  by_cases hs : x.s = 2
  · rw [inState_yes h hs, relRows_snoc, upd_yes hx, show x.free = x by unfold Rw.free; rw [hd]; rfl, set_same_row hx]
  · rw [inState_no h hs]
theorem dead_yes {rs : List Rw} {k : Nat} {x : Rw} (h : rs[k]? = some x) (hd : x.dead = true) : deadIds rs (k + 1) = deadIds rs k ++ [(k : Int)] := by
  simp [deadIds, List.range_succ, List.filter_append, rowAt_yes h, hd]
theorem dead_no {rs : List Rw} {k : Nat} {x : Rw} (h : rs[k]? = some x) (hd : x.dead = false) : deadIds rs (k + 1) = deadIds rs k := by
  simp [deadIds, List.range_succ, List.filter_append, rowAt_yes h, hd]
theorem dead_length (rs : List Rw) (k : Nat) : (deadIds rs k).length ≤ k := by
  unfold deadIds
  rw [List.length_map]
  exact Nat.le_trans (List.length_filter_le _ _) (by simp)
section
variable {w : World} {p U L : Nat} {b s l r q : Int} {rs : List Rw}

set_option maxRecDepth 100000 in
set_option maxHeartbeats 1000000 in
theorem rrelease_any (h : RAt w p U L b s l r q rs) :
    Calls Try.prog 25 #[.pointer (some ⟨p, 0, none⟩)] w fun e w' => ∃ A c, e = .returned (.slice A (deadIds rs rs.length).length c) ∧ (∀ S : List Nat, (∀ i ∈ S, i < w.heap.size) → Vals w' S A ((deadIds rs rs.length).map I)) ∧ RAt w' p U L b s l r q (rs.map Rw.free) ∧ Kept [U] w w' := by
  have H := hide h
  have hb := h.bounds
  have hpl := h.pl
  have hUl := h.Ul
  have hLl := h.Ll
  obtain ⟨n, hn⟩ : ∃ n, rs.length = n := ⟨_, rfl⟩
  have HN := hide hn
  rw [hn] at hb ⊢
  have c1 := h.c1
  rw [hn] at c1
  clear h hn
  obtain ⟨Bz, hBz⟩ : ∃ Bz, w.heap.size = Bz := ⟨_, rfl⟩
  rw [hBz] at hpl hUl hLl
  have HB0 : Hid (w.heap.size = Bz) := hide hBz
  go_enter Try.func25, Try.ntmps25
  go_wp2
  clear c1
  go_loopw [3, 4] (fun v i wr => ∃ k : Nat, k ≤ n ∧ i = .int .i64 k ∧ Hid (wr.ownsRow Bz 3 1 v (deadIds rs k).length ((deadIds rs k).map I)) ∧ Hid (Bz ≤ wr.heap.size) ∧ Hid (Kept [U] w wr) ∧ Hid (RAt wr p U L b s l r q (relRows rs (inState rs 2 k)))) (fun v i _ => n - (intOf i).toNat)
  case atStart => exact ⟨0, Nat.zero_le _, rfl, hide (World.ownsRow_nil _ _ _ _), hide (Nat.le_of_eq hBz.symm), hide (Kept.refl _ _), H⟩
  case round =>
    obtain ⟨k, hk, rfl, HO, HZ, HK, HT⟩ := hrel
    have hrl := relRows_len rs (inState rs 2 k)
    have c1 := HT.out.c1
    have c2 := HT.out.c2
    rw [hrl, HN.out] at c1 c2
    by_cases hlt : k < n
    · obtain ⟨x, hx⟩ : ∃ x, rs[k]? = some x := ⟨_, List.getElem?_eq_getElem (by rw [HN.out]; exact hlt)⟩
      have hxr : (relRows rs (inState rs 2 k))[k]? = some x := by rw [relRows_to rs k (by rw [HN.out]; exact hk), if_neg (by omega)]; exact hx
      obtain ⟨d0, d1⟩ := HT.out.uses hxr
      have e0 := HT.out.live hxr
      have hle := dead_length rs k
      cases hdd : x.dead with
      | true =>
        have HS := hide (dead_yes hx hdd)
        have hR := rel_yes hx hdd
        have hf : x.free = ⟨0, x.t, x.n⟩ := by unfold Rw.free; rw [hdd]; rfl
        have h2 := hdd
        simp only [Rw.dead, Bool.and_eq_true, decide_eq_true_eq] at h2
        obtain ⟨hs, hz⟩ := h2
        rw [hs] at d0
        rw [hz] at e0
        have hg := Rw.free_good (HT.out.at_good hxr)
        have hT2 := HT.out.put (x := x) (y := x.free) 0 (by omega) hxr hg 0 (by rw [hf]; rfl) (by rw [hf])
        rw [← hR, Nat.add_zero] at hT2
        have f0 := HT.out.use.frozen (k * 2)
        have hkk : Kept [U] wr (wr.setCell ⟨U, k * 2, none⟩ (.int .i64 0)) := (Kept.refl [U] wr).set_ (.inl (by simp)) _ _
        obtain ⟨w2, hw2⟩ : ∃ w2, wr.setCell ⟨U, k * 2, none⟩ (.int .i64 0) = w2 := ⟨_, rfl⟩
        rw [hw2] at hT2 hkk
        have HT2 := hide hT2
        have HK2 := hide (HK.out.trans hkk (by simp))
        have HO2 := hide (owns.own_keep HO.out hkk (fun i hi hm => by
          simp only [List.mem_singleton] at hi
          subst hi
          have := (owns.own_blk HO.out i hm).1
          omega))
        have HZ2 : Hid (Bz ≤ w2.heap.size) := hide (Nat.le_trans HZ.out hkk.size)
        obtain ⟨m, hm⟩ : ∃ m, (deadIds rs k).length = m := ⟨_, rfl⟩
        have HM := hide hm
        rw [hm] at HO2 hle
        clear hx hxr hdd hR hf hs hz hg hT2 hkk hm
        go_wp2_with (at_builtin; refine wpList_append_vals rfl (.tmp 40) (.tmp 42) 48 rfl Bz 3 (.int .i64 0) 1 8 Try.underlying48 int_info rfl (by omega) u3 m ((deadIds rs k).map I) rfl (owns.own_keep HO2.out ((Kept.refl [] w2).alloc _) (by simp)) [] _ 1 1 ([(k : Int)].map I) rfl (by simp) (vals_one w2 [] _ _ (by simp)) (one_I k) (by simp only [maxLen]; omega) (by omega) (by have := HZ2.out; simp; omega) ?_; intro v1 w1 hown1 hk1 hat1)
        have HK4 := hide (kept_more HO2.out (Nat.le_of_eq HB0.out) (HK2.out.alloc (.cells #[.int .i64 k] 3)) hk1)
        have HZ4 : Hid (Bz ≤ w1.heap.size) := hide (by have h1 := HZ2.out; have h2 := hk1.size; simp at h2; omega)
        have hno : ∀ z, z < Bz → z ∉ u3.ownBlock.toList := fun z hz hm => by have := (owns.own_blk HO2.out z hm).1; omega
        have HT4 := hide ((HT2.out.keep ((Kept.refl [] w2).alloc (.cells #[.int .i64 k] 3))).kept hk1 (hno _ hpl) (hno _ hUl) (hno _ hLl))
        have HO4 : Hid (w1.ownsRow Bz 3 1 v1 (deadIds rs (k + 1)).length ((deadIds rs (k + 1)).map I)) := hide (by
          rw [HS.out, List.map_append, List.length_append, HM.out]
          exact hown1)
        clear hown1 hk1 hat1 d0 d1 c1 c2 e0 f0 hno
        go_wp2
        go_roundw
        case rel => exact ⟨k + 1, by omega, by go_num, HO4, HZ4, HK4, HT4⟩
        case measure => simp [intOf]; omega
      | false =>
        have HS := hide (dead_no hx hdd)
        have HR := hide (rel_no hx hdd)
        have h2 := hdd
        by_cases hs : x.s = 2
        · have hn0 : ¬ x.n = 0 := fun h0 => by simp [Rw.dead, hs, h0] at hdd
          have he : (x.n == 0) = false := beq_eq_false_iff_ne.2 hn0
          rw [hs] at d0
          clear hx hxr hdd h2 hs hn0
          go_wp2
          go_roundw
          case rel => exact ⟨k + 1, by omega, by go_num, by rw [HS.out]; exact HO, HZ, HK, by rw [HR.out]; exact HT⟩
          case measure => simp [intOf]; omega
        · have he : (x.s == 2) = false := beq_eq_false_iff_ne.2 hs
          clear hx hxr hdd h2 hs
          go_wp2
          go_roundw
          case rel => exact ⟨k + 1, by omega, by go_num, by rw [HS.out]; exact HO, HZ, HK, by rw [HR.out]; exact HT⟩
          case measure => simp [intOf]; omega
    · obtain rfl : k = n := by omega
      have hall := relRows_all rs
      rw [HN.out] at hall
      rw [hall] at HT
      obtain ⟨A, c, rfl, _, hv⟩ := owns.own_read HO.out
      have HV := hide hv
      clear hv
      go_wp2
      go_ret
      exact ⟨A, c, rfl, fun S hS => HV.out S (fun i hi => .inl (by have := hS i hi; have := HB0.out; omega)), HT.out, HK.out⟩
end
end Go.Proofs.Ytjcnndnipnkhoaa.us
