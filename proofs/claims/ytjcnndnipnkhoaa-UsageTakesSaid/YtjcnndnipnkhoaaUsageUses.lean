/- Package usage: Uses. -/
import Derived.Test.YtjcnndnipnkhoaaUsageOps
import Derived.Test.YtjcnndnipnkhoaaUsageFrees
namespace Go.Proofs.Ytjcnndnipnkhoaa.us
set_option linter.unusedSimpArgs false
open Go.RowKit Go.Proofs.Ytjcnndnipnkhoaa.mem Go.Proofs.Ytjcnndnipnkhoaa.base Go.Proofs.Ytjcnndnipnkhoaa.geom

/-- What is told of a row. -/
def tell (free : Bool) (x : Rw) : Rw := if free = true then x.free else x
set_option maxRecDepth 100000 in
set_option maxHeartbeats 1000000 in
theorem uses_any {w : World} {p V : Nat} {b s l r q : Int} {rs : List Rw} (h : TAt w p V b s l r q rs) (free : Bool) :
    Calls Try.prog 33 #[.pointer (some ⟨p, 0, none⟩), .bool free] w fun e w' => ∃ g, e = .returned (.slice (some ⟨g, 0, none⟩) rs.length rs.length) ∧ w.heap.size ≤ g ∧ Blk w' g 61 (usesOf (rs.map (tell free))).toArray ∧ Kept [] w w' := by
  have H := hide h
  have hb := h.bounds
  have hVl := h.Vl
  have hpl := h.pl
  clear h
  obtain ⟨n, hn⟩ : ∃ n, rs.length = n := ⟨_, rfl⟩
  have HN := hide hn
  have hmk := made_uses n (by omega) w
  rw [hn] at hb ⊢
  clear hn
  go_enter Try.func33, Try.ntmps33
  go_wp2_with fail
  refine (count_any H.out).mono ?_
  rintro e w1 ⟨rfl, rfl⟩
  rw [HN.out]
  have HB : Hid (Blk (w.alloc (.cells (usesOf (List.replicate n Rw.zero)).toArray 61)) w.heap.size 61 (usesOf (List.replicate n Rw.zero)).toArray) := hide (Blk.new w _ _)
  have HK : Hid (Kept [] w (w.alloc (.cells (usesOf (List.replicate n Rw.zero)).toArray 61))) := hide ((Kept.refl [] w).alloc _)
  obtain ⟨w2, hw2⟩ : ∃ w2, w.alloc (.cells (usesOf (List.replicate n Rw.zero)).toArray 61) = w2 := ⟨_, rfl⟩
  rw [hw2] at HB HK
  obtain ⟨g, hg⟩ : ∃ g, w.heap.size = g := ⟨_, rfl⟩
  rw [hg] at HB
  go_wp2
  go_loopw [12] (fun i wr => ∃ k : Nat, k ≤ n ∧ i = .int .i64 k ∧ Hid (Blk wr g 61 (usesOf ((rs.map (tell free)).take k ++ List.replicate (n - k) Rw.zero)).toArray) ∧ Hid (Kept [] w wr)) (fun i _ => n - (intOf i).toNat)
  case atStart => exact ⟨0, Nat.zero_le _, rfl, hide (by simpa using HB.out), HK⟩
  case round =>
    obtain ⟨k, hk, rfl, HB2, HK2⟩ := hrel
    by_cases hlt : k < n
    · obtain ⟨x, hx⟩ : ∃ x, rs[k]? = some x := ⟨_, List.getElem?_eq_getElem (by rw [HN.out]; exact hlt)⟩
      have ht := H.out.keep HK2.out
      have c1 := ht.c1
      rw [HN.out] at c1
      obtain ⟨d0, d1, d2⟩ := ht.cells hx
      have HTT := hide ht
      have HX := hide hx
      have hgs : g < wr.heap.size := HB2.out.lt
      have hgV : V ≠ g := by omega
      have hgp : p ≠ g := by omega
      have hzl : ((rs.map (tell free)).take k ++ List.replicate (n - k) Rw.zero)[k]? = some Rw.zero := by
        have hl : ((rs.map (tell free)).take k).length = k := by rw [List.length_take, List.length_map, HN.out]; omega
        rw [List.getElem?_append_right (by omega), hl, Nat.sub_self, List.getElem?_replicate, if_pos (by omega)]
      have hset : ∀ y, ((rs.map (tell free)).take k ++ List.replicate (n - k) Rw.zero).set k y = (rs.map (tell free)).take k ++ y :: List.replicate (n - (k + 1)) Rw.zero := fun y => by
        have hl : ((rs.map (tell free)).take k).length = k := by rw [List.length_take, List.length_map, HN.out]; omega
        rw [List.set_append, hl, if_neg (by omega), Nat.sub_self, show n - k = (n - (k + 1)) + 1 by omega, List.replicate_succ, List.set_cons_zero]
      have hnext : (rs.map (tell free)).take (k + 1) = (rs.map (tell free)).take k ++ [tell free x] := by
        rw [List.take_add_one, List.getElem?_map, hx]
        rfl
      have e0 : wr.cell? ⟨g, k * 2, none⟩ = some (.int .i64 0) := by rw [HB2.out.cell, List.getElem?_toArray]; exact flat_get Rw.use 2 Rw.use_len _ k 0 (by omega) Rw.zero hzl
      have e1 : wr.cell? ⟨g, k * 2 + 1, none⟩ = some (.int .i64 0) := by rw [HB2.out.cell, List.getElem?_toArray]; exact flat_get Rw.use 2 Rw.use_len _ k 1 (by omega) Rw.zero hzl
      have f0 := HB2.out.frozen (k * 2)
      have f1 := HB2.out.frozen (k * 2 + 1)
      have hk0 : (0 : Int) ≤ k := by omega
      have hk1 : (k : Int) < (n : Int) := by omega
      have hz1 : Blk ((wr.setCell ⟨g, k * 2, none⟩ (.int .i64 x.s)).setCell ⟨g, k * 2 + 1, none⟩ (.int .i64 x.t)) g 61 (usesOf ((rs.map (tell free)).take k ++ x :: List.replicate (n - (k + 1)) Rw.zero)).toArray := by
        have := (HB2.out.set_ (k * 2) (.int .i64 x.s)).set_ (k * 2 + 1) (.int .i64 x.t)
        rw [List.setIfInBounds_toArray, List.setIfInBounds_toArray] at this
        unfold usesOf at this
        have h1 := flat_set Rw.use 2 Rw.use_len _ k 0 (by omega) Rw.zero ⟨x.s, 0, 0⟩ hzl (.int .i64 x.s) rfl
        rw [Nat.add_zero] at h1
        rw [h1, flat_set Rw.use 2 Rw.use_len _ k 1 (by omega) ⟨x.s, 0, 0⟩ x (by rw [List.getElem?_set, if_pos rfl, if_pos (List.getElem?_eq_some_iff.1 hzl).1]) (.int .i64 x.t) rfl, List.set_set, hset] at this
        exact this
      have hkz : Kept [] w ((wr.setCell ⟨g, k * 2, none⟩ (.int .i64 x.s)).setCell ⟨g, k * 2 + 1, none⟩ (.int .i64 x.t)) := (HK2.out.set_ (b := g) (.inr (by omega)) _ _).set_ (b := g) (.inr (by omega)) _ _
      obtain ⟨w4, hw4⟩ : ∃ w4, (wr.setCell ⟨g, k * 2, none⟩ (.int .i64 x.s)).setCell ⟨g, k * 2 + 1, none⟩ (.int .i64 x.t) = w4 := ⟨_, rfl⟩
      rw [hw4] at hz1 hkz
      have ht4 := H.out.keep hkz
      have c4 := ht4.c1
      rw [HN.out] at c4
      have HT4 := hide ht4
      have hzk : ((rs.map (tell free)).take k ++ x :: List.replicate (n - (k + 1)) Rw.zero)[k]? = some x := by
        have hl : ((rs.map (tell free)).take k).length = k := by rw [List.length_take, List.length_map, HN.out]; omega
        rw [List.getElem?_append_right (by omega), hl, Nat.sub_self]
        rfl
      have g0 : w4.cell? ⟨g, k * 2, none⟩ = some (.int .i64 x.s) := by rw [hz1.cell, List.getElem?_toArray]; exact flat_get Rw.use 2 Rw.use_len _ k 0 (by omega) x hzk
      have fg0 := hz1.frozen (k * 2)
      have hz5 : x.dead = true → Blk (w4.setCell ⟨g, k * 2, none⟩ (.int .i64 0)) g 61 (usesOf ((rs.map (tell free)).take k ++ x.free :: List.replicate (n - (k + 1)) Rw.zero)).toArray := fun hdd => by
        have := hz1.set_ (k * 2) (.int .i64 0)
        rw [List.setIfInBounds_toArray] at this
        unfold usesOf at this
        have h1 := flat_set Rw.use 2 Rw.use_len _ k 0 (by omega) x x.free hzk (.int .i64 0) (by unfold Rw.free; rw [hdd]; rfl)
        simp only [Nat.add_zero] at h1
        have hl : ((rs.map (tell free)).take k).length = k := by rw [List.length_take, List.length_map, HN.out]; omega
        rw [h1, List.set_append, hl, if_neg (by omega), Nat.sub_self, List.set_cons_zero] at this
        exact this
      have HZ5 := hide hz5
      have HZ1 := hide hz1
      have HKZ := hide hkz
      have HKZ5 := hide (hkz.set_ (b := g) (.inr (by omega)) (k * 2) (.int .i64 0))
      have HNX := hide hnext
      clear ht hx hzl hset hnext hz1 hkz ht4 hzk hz5
      have fin : ∀ W y, tell free x = y → Blk W g 61 (usesOf ((rs.map (tell free)).take k ++ y :: List.replicate (n - (k + 1)) Rw.zero)).toArray → Hid (Blk W g 61 (usesOf ((rs.map (tell free)).take (k + 1) ++ List.replicate (n - (k + 1)) Rw.zero)).toArray) := fun W y e h => by
        rw [HNX.out, e, List.append_assoc]
        exact hide h
      have FIN := hide fin
      clear fin
      cases free
      · go_wp2
        go_roundw
        case rel => exact ⟨k + 1, by omega, by go_num, FIN.out _ x rfl HZ1.out, HKZ⟩
        case measure => simp [intOf]; omega
      · cases hdd : x.dead
        · have HD := hide hdd
          clear hdd
          go_wp2_with fail
          refine (dead_any HT4.out k x HX.out).mono ?_
          rintro e w5 ⟨rfl, rfl⟩
          rw [HD.out]
          go_wp2
          go_roundw
          case rel => exact ⟨k + 1, by omega, by go_num, FIN.out _ x (by unfold tell Rw.free; rw [HD.out]; rfl) HZ1.out, HKZ⟩
          case measure => simp [intOf]; omega
        · have HD := hide hdd
          clear hdd
          go_wp2_with fail
          refine (dead_any HT4.out k x HX.out).mono ?_
          rintro e w5 ⟨rfl, rfl⟩
          rw [HD.out]
          go_wp2
          go_roundw
          case rel => exact ⟨k + 1, by omega, by go_num, FIN.out _ x.free rfl (HZ5.out HD.out), HKZ5⟩
          case measure => simp [intOf]; omega
    · obtain rfl : k = n := by omega
      have hfull : (rs.map (tell free)).take k ++ List.replicate (k - k) Rw.zero = rs.map (tell free) := by rw [List.take_of_length_le (by rw [List.length_map, HN.out]; exact Nat.le_refl _)]; simp
      rw [hfull] at HB2
      clear hfull
      go_wp2
      go_ret
      exact ⟨g, rfl, by omega, HB2.out, HK2.out⟩
end Go.Proofs.Ytjcnndnipnkhoaa.us
