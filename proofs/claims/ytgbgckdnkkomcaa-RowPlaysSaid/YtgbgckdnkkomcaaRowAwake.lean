import Derived.Test.YtgbgckdnkkomcaaRowNo
namespace Go.Proofs.Ytgbgckdnkkomcaa.row
open Go.RowKit Go.Proofs.Ytgbgckdnkkomcaa.mem

theorem put_nil (x : Int) (w : World) (hx : isW x = true) :
    Calls Try.prog 10 #[.pointer none, .int .i64 x, .slice none 0 0] w fun e w' => e = .returned (.bool false) ∧ w = w' := by
  have HX := hide hx
  clear hx
  go_enter Try.func10, Try.ntmps10
  go_wp2_with (go_at_call 25; refine (isWidth_yes _ _ HX.out).mono ?_; rintro e w' ⟨rfl, rfl⟩)
  go_loop [17] (fun i => i = .int .i64 0) (fun _ => 0)
  case atStart => rfl
  case round =>
    obtain rfl := hrel
    go_wp2_with (go_at_call 27; refine (next_nil _ _).mono ?_; rintro e w' ⟨rfl, rfl⟩)
    go_loop [37] (fun i => i = .int .i64 0) (fun _ => 0)
    case atStart => rfl
    case round =>
      obtain rfl := hrel
      go_wp2
      go_ret
      exact ⟨rfl, rfl⟩

theorem NewBytes.vals {w w' : World} {A : Option Addr} {cap : Nat} {bs : List UInt8} (h : NewBytes w w' A cap bs) {S : List Nat} (hS : ∀ i ∈ S, i < w.heap.size) : Vals w' S A (bs.map B) := by
  rcases h with ⟨rfl, rfl, rfl⟩ | ⟨g, rfl, hg, _, ha⟩
  · exact Vals.nil _ _ _
  · exact ha.vals (fun hm => by have := hS _ hm; omega)
theorem NewBytes.nil0 {w w' : World} {A : Option Addr} {cap : Nat} {bs : List UInt8} (h : NewBytes w w' A cap bs) (hA : A = none) : cap = 0 := by
  rcases h with ⟨rfl, rfl, rfl⟩ | ⟨g, rfl, hg, _, ha⟩
  · rfl
  · cases hA

theorem NewBytes.pos {w w' : World} {A : Option Addr} {cap : Nat} {bs : List UInt8} (h : NewBytes w w' A cap bs) (hn : 0 < bs.length) : ∃ g, A = some ⟨g, 0, none⟩ ∧ w.heap.size ≤ g ∧ Arr w' g cap bs := by
  rcases h with ⟨_, _, rfl⟩ | ⟨g, h1, h2, _, h3⟩
  · cases hn
  · exact ⟨g, h1, h2, h3⟩

/-- A slice over a block of one number. -/
theorem vals_one (w : World) (S : List Nat) (n : Int) (t : TypeId) (hS : ∀ i ∈ S, i < w.heap.size) : Vals (w.alloc (.cells #[.int .i64 n] t)) S (some ⟨w.heap.size, 0, none⟩) ([n].map I) :=
  Vals.blk 0 (Blk.new w t #[.int .i64 n]) (fun hm => by have := hS _ hm; omega) (fun i v hv => by
    rcases i with _ | i
    · simpa [I] using hv
    · simp at hv)

theorem made_B (n i : Nat) (h : i < n) : (madeCells #[.int .u8 0] n)[i]? = some (B 0) := by
  simp [madeCells, h, Nat.mod_one]
  rfl

/-- A slice over a new block of zeros. -/
theorem vals_made (w : World) (S : List Nat) (n : Nat) (hS : ∀ i ∈ S, i < w.heap.size) : Vals (w.alloc (.cells (madeCells #[.int .u8 0] n) 5)) S (some ⟨w.heap.size, 0, none⟩) ((List.replicate n 0).map B) :=
  Vals.blk 0 (Blk.new w _ _) (fun hm => by have := hS _ hm; omega) (fun i v hv => by
    rw [List.map_replicate, List.getElem?_replicate] at hv
    split at hv
    · rename_i hi
      rw [Nat.zero_add, made_B n i hi]
      exact hv
    · cases hv)

set_option maxRecDepth 100000 in
set_option maxHeartbeats 1000000 in
theorem awake_any (w : World) : Calls Try.prog 7 #[] w fun e w' => e = .returned (.bool true) ∧ Below w.heap.size w w' := by
  go_enter Try.func7, Try.ntmps7
  go_wp2_with fail
  refine (new_at 3 _ (by omega) (by omega)).mono ?_
  rintro e w1 ⟨p, b, cap, A, rfl, hp, hb, hb1, hr, hk⟩
  have hp1 := hr.lt
  have H1 := hide hr
  have K1 : Hid (Kept [] w w1) := hide hk
  clear hr hk
  go_wp2_with (go_at_call 8; refine (new_no _ _ (by omega)).mono ?_; rintro e w' ⟨rfl, rfl⟩)
  refine (put_at p b cap A _ 2 _ [258] 1 _ (H1.out.kept (S := []) ((Kept.refl _ _).alloc _) (by simp) (by simp)) (vals_one w1 [p, b] 258 _ (by simp; omega)) (by simp)).mono ?_
  rintro e w2 ⟨rfl, h2, hk2⟩
  have K2 : Hid (Kept [p, b] w1 w2) := hide (((Kept.refl _ w1).alloc _).trans hk2 (fun i hi => .inl hi))
  rw [show (Row.put ⟨List.replicate (Int.toNat 3) 0, 0⟩ 2 [258]) = (true, ⟨[2, 1, 0], 2⟩) by decide] at *
  have H2 := hide h2
  clear h2 hk2 H1
  have hs2 := K2.out.size
  go_wp2_with fail
  refine (put_at p b cap A _ 2 _ [1] 1 _ (H2.out.kept (S := []) ((Kept.refl _ _).alloc _) (by simp) (by simp)) (vals_one w2 [p, b] 1 _ (by simp; omega)) (by simp)).mono ?_
  rintro e w3 ⟨rfl, h3, hk3⟩
  have K3 : Hid (Kept [p, b] w1 w3) := hide (K2.out.trans (((Kept.refl _ w2).alloc _).trans hk3 (fun i hi => .inl hi)) (fun i hi => .inl hi))
  rw [show (Row.put ⟨[2, 1, 0], 2⟩ 2 [1]) = (false, ⟨[2, 1, 0], 2⟩) by decide] at *
  have H3 := hide h3
  clear h3 hk3 K2 H2
  have hs3 := K3.out.size
  go_wp2_with fail
  refine (bytes_at p b cap A _ _ H3.out).mono ?_
  rintro e w4 ⟨A4, c4, rfl, hn4, hk4⟩
  have K4 := hide hk4
  have N4 := hide hn4
  clear hk4 hn4
  go_wp2_with fail
  refine (from_at A4 c4 [2, 1, 0] _ (N4.out.vals (S := []) (by simp)) N4.out.nil0 (by simp)).mono ?_
  rintro e w5 ⟨p5, b5, c5, A5, rfl, hp5, hb5, hb51, hr5, hk5⟩
  have K5 := hide hk5
  have R5 := hide hr5
  clear hk5 hr5
  go_wp2_with fail
  refine (get_at p5 b5 c5 A5 _ 2 _ R5.out).mono ?_
  rintro e w6 ⟨rfl, hr6, hk6⟩
  rw [show (Row.get ⟨[2, 1, 0], 0⟩ 2) = (258, true, ⟨[2, 1, 0], 2⟩) by decide] at *
  have K6 := hide hk6
  have R6 := hide hr6
  clear hk6 hr6
  go_wp2_with fail
  refine (get_at p5 b5 c5 A5 _ 2 _ R6.out).mono ?_
  rintro e w7 ⟨rfl, hr7, hk7⟩
  rw [show (Row.get ⟨[2, 1, 0], 2⟩ 2) = (0, false, ⟨[2, 1, 0], 2⟩) by decide] at *
  have K7 := hide hk7
  have R7 := hide hr7
  clear hk7 hr7
  go_wp2_with fail
  refine (left_at p5 b5 c5 A5 _ _ R7.out).mono ?_
  rintro e w8 ⟨rfl, k, rfl⟩
  have K37 : Hid (Kept [p5] w3 w7) := hide (((K4.out.trans K5.out (by simp)).mono (by simp)).trans (K6.out.trans K7.out (by simp)) (by simp))
  have hs4 := K4.out.size
  go_wp2_with fail
  refine (bytes_at p b cap A _ _ ((H3.out.kept K37.out (by simp; omega) (by simp; omega)).drewN k)).mono ?_
  rintro e w9 ⟨A9, c9, rfl, hn9, hk9⟩
  have K9 := hide hk9
  clear hk9 hn9
  go_wp2_with (first | (go_at_call 21; refine (left_nil _).mono ?_; rintro e w' ⟨rfl, rfl⟩) | (go_at_call 10; refine (put_nil 1 _ rfl).mono ?_; rintro e w' ⟨rfl, rfl⟩) | (go_at_call 22; refine (bytes_nil _).mono ?_; rintro e w' ⟨rfl, rfl⟩))
  go_ret
  refine ⟨rfl, ?_⟩
  have K39 : Kept [p5] w3 w9 := (K37.out.drewN k).trans K9.out (by simp)
  have K19 : Kept [p, b] w1 w9 := K3.out.trans K39 (by simp; omega)
  exact (K1.out.trans K19 (by simp; omega)).below (by simp)
end Go.Proofs.Ytgbgckdnkkomcaa.row
