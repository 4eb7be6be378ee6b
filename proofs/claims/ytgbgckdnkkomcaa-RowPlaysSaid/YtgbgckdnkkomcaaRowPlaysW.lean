import Derived.Test.YtgbgckdnkkomcaaRefLay
import Derived.Deep.RegionHeld3
import Derived.Deep.RegionLaw
namespace Go.Proofs.Ytgbgckdnkkomcaa.rowPlays
open Go.RowKit Go.Proofs.Ytgbgckdnkkomcaa.mem Go.Proofs.Ytgbgckdnkkomcaa.row Go.Proofs.Ytgbgckdnkkomcaa.ref

/-- What an act of the list reads as, at the address of its first cell. -/
def ActAt (w : World) (q : Addr) : Prop :=
  ∃ (kind width n : Int) (NA : Option Addr) (nums : List Int) (nc : Nat) (BA : Option Addr) (bs : List UInt8) (bc : Nat),
    w.cell? q = some (.int .i64 kind) ∧ w.cell? ⟨q.block, q.off + 1, none⟩ = some (.int .i64 width) ∧ w.cell? ⟨q.block, q.off + 2, none⟩ = some (.int .i64 n) ∧
    w.cell? ⟨q.block, q.off + 3, none⟩ = some (.slice NA nums.length nc) ∧ w.cell? ⟨q.block, q.off + 4, none⟩ = some (.slice BA bs.length bc) ∧
    Vals w [] NA (nums.map I) ∧ Vals w [] BA (bs.map B) ∧ (BA = none → bc = 0) ∧ bs.length ≤ bc

theorem vals_below {w wr : World} {A : Option Addr} {vs : List Value} {S : List Nat} (h : Vals w [] A vs) (hb : Below w.heap.size w wr) (hS : ∀ i ∈ S, w.heap.size ≤ i) : Vals wr S A vs := by
  intro i v hv
  obtain ⟨ad, rfl, _, hc⟩ := h i v hv
  have hlt := block_lt_of_cell hc
  exact ⟨ad, rfl, fun hm => by rw [block_of_add] at hlt; have := hS _ hm; omega, below_cell hb hc⟩

theorem bytes_same (A1 A2 : Option Addr) (n1 n2 c1 c2 : Nat) (xs : List UInt8) (w : World) (hn1 : xs.length = n1) (hn2 : xs.length = n2) (h1 : Vals w [] A1 (xs.map B)) (h2 : Vals w [] A2 (xs.map B)) (hm : n1 ≤ 140737488355328) :
    Calls Try.prog 18 #[.slice A1 n1 c1, .slice A2 n2 c2] w fun e w' => e = .returned (.bool true) ∧ ∃ k, w' = w.drewN k :=
  (bytes_any A1 A2 n1 n2 c1 c2 xs xs w hn1 hn2 h1 h2 hm).mono fun e w' ⟨he, hw⟩ => ⟨by rw [he]; simp, hw⟩

/-- Both rows stand alike, apart from each other, and behind all that was there. -/
def Both (w wr : World) (p b cap : Nat) (A : Option Addr) (p' b' : Nat) (R : Row) : Prop :=
  RowAt wr p b cap A R ∧ RefAt wr p' b' R ∧ (p' ∉ [p, b] ∧ b' ∉ [p, b]) ∧ (w.heap.size ≤ p ∧ w.heap.size ≤ b ∧ w.heap.size ≤ p' ∧ w.heap.size ≤ b') ∧ b < wr.heap.size ∧ Below w.heap.size w wr
theorem Both.drewN {w wr : World} {p b cap : Nat} {A : Option Addr} {p' b' : Nat} {R : Row} (h : Both w wr p b cap A p' b' R) (k : Nat) : Both w (wr.drewN k) p b cap A p' b' R :=
  ⟨h.1, h.2.1, h.2.2.1, h.2.2.2.1, h.2.2.2.2.1, below_drewN h.2.2.2.2.2 k⟩
theorem Both.drew {w wr : World} {p b cap : Nat} {A : Option Addr} {p' b' : Nat} {R : Row} (h : Both w wr p b cap A p' b' R) : Both w wr.drew p b cap A p' b' R := h.drewN 1
theorem Both.kept {w wr w2 : World} {p b cap : Nat} {A : Option Addr} {p' b' : Nat} {R : Row} (h : Both w wr p b cap A p' b' R) (k : Kept [] wr w2) : Both w w2 p b cap A p' b' R :=
  ⟨h.1.kept k (by simp) (by simp), h.2.1.kept k (by simp) (by simp), h.2.2.1, h.2.2.2.1, Nat.lt_of_lt_of_le h.2.2.2.2.1 k.size, h.2.2.2.2.2.trans (k.below_of (by simp) h.2.2.2.2.2.size)⟩
theorem Both.ne1 {w wr : World} {p b cap : Nat} {A : Option Addr} {p' b' : Nat} {R : Row} (h : Both w wr p b cap A p' b' R) : p ∉ [p', b'] ∧ b ∉ [p', b'] := by
  have := h.2.2.1
  simp at this ⊢
  omega
/-- The first row has turned, and then the second, in the same way. -/
theorem Both.turned {w wr w2 w3 : World} {p b cap : Nat} {A : Option Addr} {p' b' : Nat} {R R' : Row} (h : Both w wr p b cap A p' b' R) (hr : RowAt w2 p b cap A R') (k2 : Kept [p, b] wr w2) (hm : RefAt w3 p' b' R') (k3 : Kept [p', b'] w2 w3) : Both w w3 p b cap A p' b' R' := by
  obtain ⟨h1, h2, h3, h4, h5, h6⟩ := h
  have hn := Both.ne1 (w := w) ⟨h1, h2, h3, h4, h5, h6⟩
  refine ⟨hr.kept k3 hn.1 hn.2, hm, h3, h4, ?_, ?_⟩
  · have := k2.size; have := k3.size; omega
  · have e2 : Below w.heap.size wr w2 := k2.below_of (by simp; omega) h6.size
    have e3 : Below w.heap.size w2 w3 := k3.below_of (by simp; omega) (by have := h6.size; have := k2.size; omega)
    exact (h6.trans e2).trans e3

set_option maxRecDepth 100000 in
set_option maxHeartbeats 40000000 in
theorem walk_in (size : Int) (L : Option Addr) (len c : Nat) (w : World) (hl : len ≤ 60) (h0 : 0 ≤ size) (h1 : size ≤ 65536) (hacts : ∀ i, i < len → ∃ ad, L = some ad ∧ ActAt w (ad.add (i * 5))) :
    Calls Try.prog 3 #[.int .i64 size, .slice L len c] w fun e w' => e = .returned (.bool true) ∧ Below w.heap.size w w' := by
  have HA := hide hacts
  clear hacts
  go_enter Try.func3, Try.ntmps3
  go_wp2_with fail
  refine (new_at size _ h0 h1).mono ?_
  rintro e w1 ⟨p, b, cap, A, rfl, hp, hb, hb1, hr, hk1⟩
  have R1 := hide hr
  have hp1 := hr.lt
  have K1 := hide hk1
  clear hr hk1
  go_wp2_with fail
  refine (rnew_ok size _ h0 h1).mono ?_
  rintro e w2 ⟨p', b', rfl, hp', hb', hr', hk2⟩
  have hs1 := K1.out.size
  have BB : Hid (Both w w2 p b cap A p' b' ⟨List.replicate size.toNat 0, 0⟩) := hide ⟨R1.out.kept hk2 (by simp) (by simp), hr', ⟨by simp; omega, by simp; omega⟩, ⟨hp, hb, by omega, by omega⟩, by have := hk2.size; omega, (K1.out.trans hk2 (by simp)).below (by simp)⟩
  clear R1 hr' hk2 K1
  go_wp2_with fail
  generalize (⟨List.replicate size.toNat 0, 0⟩ : Row) = R0 at BB
  go_loopw [5, 6, 7] (fun v5 v6 v7 wr => ∃ (p b cap : Nat) (A : Option Addr) (p' b' : Nat) (R : Row) (j : Nat), j ≤ len ∧ v5 = .pointer (some ⟨p, 0, none⟩) ∧ v6 = .pointer (some ⟨p', 0, none⟩) ∧ v7 = .int .i64 j ∧ Both w wr p b cap A p' b' R) (fun v5 v6 v7 wr => len - (intOf v7).toNat)
  case atStart => exact ⟨p, b, cap, A, p', b', _, 0, Nat.zero_le _, rfl, rfl, rfl, BB.out⟩
  case round =>
    clear BB hp hb hp1 hp' hb' hs1 hb1
    obtain ⟨p, b, cap, A, p', b', R, j, hj, rfl, rfl, rfl, hbo⟩ := hrel
    by_cases hlt : j < len
    · obtain ⟨ad, rfl, kind, width, n, NA, nums, nc, BA, bs, bc, c0, c1, c2, c3, c4, hvn, hvb, hbn, hbc⟩ := HA.out j hlt
      have hbel := hbo.2.2.2.2.2
      have hd0 := below_cell hbel c0
      have hd1 := below_cell hbel c1
      have hd2 := below_cell hbel c2
      have hd3 := below_cell hbel c3
      have hd4 := below_cell hbel c4
      have HVN := hide hvn
      have HVB := hide hvb
      have HBN := hide hbn
      have HBO := hide hbo
      clear c0 c1 c2 c3 c4 hvn hvb hbn hbo hbel
      by_cases hX : 100 < nums.length
      · go_wp2_with (go_at_call 7; refine (awake_any _).mono ?_; rintro e w7 ⟨rfl, hb7⟩)
        go_ret
        exact ⟨rfl, below_then (HBO.out.2.2.2.2.2.alloc HBO.out.2.2.2.2.2.size _) hb7⟩
      by_cases hY : 200 < bs.length
      · go_wp2_with (go_at_call 7; refine (awake_any _).mono ?_; rintro e w7 ⟨rfl, hb7⟩)
        go_ret
        exact ⟨rfl, below_then (HBO.out.2.2.2.2.2.alloc HBO.out.2.2.2.2.2.size _) hb7⟩
      by_cases hk1 : kind = 1
      · subst hk1
        go_wp2_with fail
        generalize hwa : wr.alloc (.cells #[.int .i64 1, .int .i64 width, .int .i64 n, .slice NA nums.length nc, .slice BA bs.length bc] 31) = wa
        have GA : Hid (Blk wa wr.heap.size 31 #[.int .i64 1, .int .i64 width, .int .i64 n, .slice NA nums.length nc, .slice BA bs.length bc]) := hide (by subst hwa; exact Blk.new _ _ _)
        have BA2 : Hid (Both w wa p b cap A p' b' R) := hide (by subst hwa; exact HBO.out.kept ((Kept.refl [] wr).alloc _))
        have HG : Hid (wr.heap.size ∉ [p, b]) := hide (by have h1 := HBO.out.1.lt; have h2 := HBO.out.2.2.2.2.1; simp; omega)
        have HG2 : Hid (wr.heap.size ∉ [p', b']) := hide (by have h1 := HBO.out.2.1.lt; have h2 := HBO.out.2.1.blt; simp; omega)
        clear hwa hd0 hd1 hd2 hd3 hd4
        generalize wr.heap.size = g at *
        have t1 : wa.cell? ⟨g, 1, none⟩ = some (.int .i64 width) := GA.out.cell 1
        have t3 : wa.cell? ⟨g, 3, none⟩ = some (.slice NA nums.length nc) := GA.out.cell 3
        have hge := hide BA2.out.2.2.2.1
        have hnn : nums.length ≤ 140737488355328 := by omega
        go_region_held3 (fun W => W.cell? ⟨g, 1, none⟩ = some (.int .i64 width) ∧ W.cell? ⟨g, 3, none⟩ = some (.slice NA nums.length nc))
          (first | go_keep | assumption)
          (first
            | (go_at_call 10; refine (put_len p b cap A R width NA nums _ nc _ rfl (BA2.out.drew).1 ?_ hnn).mono ?_; exact (vals_below HVN.out (BA2.out.drew).2.2.2.2.2 (by have := hge.out; simp; omega)); rintro e w3 ⟨rfl, hr3, hk3⟩; have s1 := (hk3.blk (w := w3) (show Blk wa.drew _ _ _ from GA.out) HG.out).cell 1; have s3 := (hk3.blk (w := w3) (show Blk wa.drew _ _ _ from GA.out) HG.out).cell 3; have HR3 := hide hr3; have HK3 := hide hk3; clear hr3 hk3)
            | (go_at_call 11; go_must (refine (rput_at p' b' R width NA nums _ nc _ rfl ((BA2.out.drew).2.1.kept HK3.out (BA2.out.2.2.1).1 (BA2.out.2.2.1).2) ?_ hnn).mono ?_); go_must (exact (vals_below HVN.out ((BA2.out.drew).2.2.2.2.2.trans (HK3.out.below_of (by have := hge.out; simp; omega) BA2.out.2.2.2.2.2.size)) (by have := hge.out; simp; omega))); rintro e w4 ⟨rfl, hr4, hk4⟩; have s1 := (hk4.blk (w := w4) (HK3.out.blk (w := w3) (show Blk wa.drew _ _ _ from GA.out) HG.out) HG2.out).cell 1; have s3 := (hk4.blk (w := w4) (HK3.out.blk (w := w3) (show Blk wa.drew _ _ _ from GA.out) HG.out) HG2.out).cell 3; have HR4 := hide hr4; have HK4 := hide hk4; clear hr4 hk4))
        have HB : Hid (Both w w4 p b cap A p' b' (R.put width nums).2) := hide ((BA2.out.drew).turned HR3.out HK3.out HR4.out HK4.out)
        go_wp2_with fail
        clear HR3 HR4 HK3 HK4 s1 s3 t1 t3
        generalize (R.put width nums).2 = R2 at HB
        have m0 : w4.cell? ⟨p', 0, none⟩ = some (.slice (some ⟨b', 0, none⟩) R2.bs.length R2.bs.length) := HB.out.2.1.c0
        have m1 : w4.cell? ⟨p', 1, none⟩ = some (.int .i64 R2.pos) := HB.out.2.1.c1
        have hl2 := HB.out.2.1.len_le
        have hp2 := HB.out.2.1.pos_le
        have gw : IntKind.i64.wrap ((R2.bs.length : Int) - R2.pos) = (R2.bs.length : Int) - R2.pos := IntWalk.i64_in _ (by omega)
        have ht : (((R2.bs.length : Int) - R2.pos) != ((R2.bs.length : Int) - R2.pos)) = false := by simp
        go_region_held3 (fun W => W.cell? ⟨p', 0, none⟩ = some (.slice (some ⟨b', 0, none⟩) R2.bs.length R2.bs.length) ∧ W.cell? ⟨p', 1, none⟩ = some (.int .i64 R2.pos))
          (first | go_keep | assumption)
          (first
            | (go_at_call 21; refine (left_at p b cap A R2 _ ?_).mono ?_; exact HB.out.1; rintro e w5 ⟨rfl, k5, rfl⟩)
            | (go_at_call 22; refine (bytes_at p b cap A R2 _ ?_).mono ?_; exact HB.out.1; rintro e w6 ⟨A6, c6, rfl, hn6, hk6⟩; have z0 := hk6.cell (p := ⟨p', 0, none⟩) (show World.cell? _ ⟨p', 0, none⟩ = _ from m0) (by simp); have z1 := hk6.cell (p := ⟨p', 1, none⟩) (show World.cell? _ ⟨p', 1, none⟩ = _ from m1) (by simp); have N6 := hide hn6; have B6 := hide (Both.kept (HB.out.drewN _) hk6); clear hn6 hk6)
            | (go_at_call 18; refine (bytes_same A6 _ _ _ c6 _ R2.bs _ rfl rfl ?_ ?_ (by omega)).mono ?_; exact N6.out.vals (S := []) (by simp); go_must (exact B6.out.2.1.vals (by simp)); rintro e w7 ⟨rfl, k7, rfl⟩))
        clear m0 m1 gw ht z0 z1
        go_wp2
        go_roundw
        case rel => exact ⟨p, b, cap, A, p', b', R2, j + 1, by omega, rfl, rfl, by go_num, B6.out.drewN k7⟩
        case measure => simp [intOf]; omega

      by_cases hk2 : kind = 2
      · subst hk2
        go_wp2_with fail
        generalize hwa : wr.alloc (.cells #[.int .i64 2, .int .i64 width, .int .i64 n, .slice NA nums.length nc, .slice BA bs.length bc] 31) = wa
        have GA : Hid (Blk wa wr.heap.size 31 #[.int .i64 2, .int .i64 width, .int .i64 n, .slice NA nums.length nc, .slice BA bs.length bc]) := hide (by subst hwa; exact Blk.new _ _ _)
        have BA2 : Hid (Both w wa p b cap A p' b' R) := hide (by subst hwa; exact HBO.out.kept ((Kept.refl [] wr).alloc _))
        have HG : Hid (wr.heap.size ∉ [p, b]) := hide (by have h1 := HBO.out.1.lt; have h2 := HBO.out.2.2.2.2.1; simp; omega)
        have HG2 : Hid (wr.heap.size ∉ [p', b']) := hide (by have h1 := HBO.out.2.1.lt; have h2 := HBO.out.2.1.blt; simp; omega)
        clear hwa hd0 hd1 hd2 hd3 hd4
        generalize wr.heap.size = g at *
        have t4 : wa.cell? ⟨g, 4, none⟩ = some (.slice BA bs.length bc) := GA.out.cell 4
        have hge := hide BA2.out.2.2.2.1
        go_region_held3 (fun W => W.cell? ⟨g, 4, none⟩ = some (.slice BA bs.length bc))
          (first | go_keep | assumption)
          (first
            | (go_at_call 12; refine (lay_len p b cap A R BA bs _ bc _ rfl (BA2.out.drew).1 ?_).mono ?_; exact (vals_below HVB.out (BA2.out.drew).2.2.2.2.2 (by have := hge.out; simp; omega)); rintro e w3 ⟨rfl, hr3, hk3⟩; have s4 := (hk3.blk (w := w3) (show Blk wa.drew _ _ _ from GA.out) HG.out).cell 4; have HR3 := hide hr3; have HK3 := hide hk3; clear hr3 hk3)
            | (go_at_call 13; go_must (refine (rlay_at p' b' R BA bs _ bc _ rfl ((BA2.out.drew).2.1.kept HK3.out (BA2.out.2.2.1).1 (BA2.out.2.2.1).2) ?_).mono ?_); go_must (exact (vals_below HVB.out ((BA2.out.drew).2.2.2.2.2.trans (HK3.out.below_of (by have := hge.out; simp; omega) BA2.out.2.2.2.2.2.size)) (by have := hge.out; simp; omega))); rintro e w4 ⟨rfl, hr4, hk4⟩; have s4 := (hk4.blk (w := w4) (HK3.out.blk (w := w3) (show Blk wa.drew _ _ _ from GA.out) HG.out) HG2.out).cell 4; have HR4 := hide hr4; have HK4 := hide hk4; clear hr4 hk4))
        have HB : Hid (Both w w4 p b cap A p' b' (R.lay bs).2) := hide ((BA2.out.drew).turned HR3.out HK3.out HR4.out HK4.out)
        go_wp2_with fail
        clear HR3 HR4 HK3 HK4 s4 t4
        generalize (R.lay bs).2 = R2 at HB
        have m0 : w4.cell? ⟨p', 0, none⟩ = some (.slice (some ⟨b', 0, none⟩) R2.bs.length R2.bs.length) := HB.out.2.1.c0
        have m1 : w4.cell? ⟨p', 1, none⟩ = some (.int .i64 R2.pos) := HB.out.2.1.c1
        have hl2 := HB.out.2.1.len_le
        have hp2 := HB.out.2.1.pos_le
        have gw : IntKind.i64.wrap ((R2.bs.length : Int) - R2.pos) = (R2.bs.length : Int) - R2.pos := IntWalk.i64_in _ (by omega)
        have ht : (((R2.bs.length : Int) - R2.pos) != ((R2.bs.length : Int) - R2.pos)) = false := by simp
        go_region_held3 (fun W => W.cell? ⟨p', 0, none⟩ = some (.slice (some ⟨b', 0, none⟩) R2.bs.length R2.bs.length) ∧ W.cell? ⟨p', 1, none⟩ = some (.int .i64 R2.pos))
          (first | go_keep | assumption)
          (first
            | (go_at_call 21; refine (left_at p b cap A R2 _ ?_).mono ?_; exact HB.out.1; rintro e w5 ⟨rfl, k5, rfl⟩)
            | (go_at_call 22; refine (bytes_at p b cap A R2 _ ?_).mono ?_; exact HB.out.1; rintro e w6 ⟨A6, c6, rfl, hn6, hk6⟩; have z0 := hk6.cell (p := ⟨p', 0, none⟩) (show World.cell? _ ⟨p', 0, none⟩ = _ from m0) (by simp); have z1 := hk6.cell (p := ⟨p', 1, none⟩) (show World.cell? _ ⟨p', 1, none⟩ = _ from m1) (by simp); have N6 := hide hn6; have B6 := hide (Both.kept (HB.out.drewN _) hk6); clear hn6 hk6)
            | (go_at_call 18; refine (bytes_same A6 _ _ _ c6 _ R2.bs _ rfl rfl ?_ ?_ (by omega)).mono ?_; exact N6.out.vals (S := []) (by simp); go_must (exact B6.out.2.1.vals (by simp)); rintro e w7 ⟨rfl, k7, rfl⟩))
        clear m0 m1 gw ht z0 z1
        go_wp2
        go_roundw
        case rel => exact ⟨p, b, cap, A, p', b', R2, j + 1, by omega, rfl, rfl, by go_num, B6.out.drewN k7⟩
        case measure => simp [intOf]; omega

      by_cases hk3 : kind = 3
      · subst hk3
        go_wp2_with fail
        generalize hwa : wr.alloc (.cells #[.int .i64 3, .int .i64 width, .int .i64 n, .slice NA nums.length nc, .slice BA bs.length bc] 31) = wa
        have GA : Hid (Blk wa wr.heap.size 31 #[.int .i64 3, .int .i64 width, .int .i64 n, .slice NA nums.length nc, .slice BA bs.length bc]) := hide (by subst hwa; exact Blk.new _ _ _)
        have BA2 : Hid (Both w wa p b cap A p' b' R) := hide (by subst hwa; exact HBO.out.kept ((Kept.refl [] wr).alloc _))
        have HG : Hid (wr.heap.size ∉ [p, b]) := hide (by have h1 := HBO.out.1.lt; have h2 := HBO.out.2.2.2.2.1; simp; omega)
        have HG2 : Hid (wr.heap.size ∉ [p', b']) := hide (by have h1 := HBO.out.2.1.lt; have h2 := HBO.out.2.1.blt; simp; omega)
        clear hwa hd0 hd1 hd2 hd3 hd4
        generalize wr.heap.size = g at *
        have t1 : wa.cell? ⟨g, 1, none⟩ = some (.int .i64 width) := GA.out.cell 1
        go_wp2_with fail
        refine (row.get_at p b cap A R width _ BA2.out.1).mono ?_
        rintro e w3 ⟨rfl, hr3, hk3⟩
        have s1 : w3.cell? ⟨g, 1, none⟩ = some (.int .i64 width) := (hk3.blk GA.out (by have := HG.out; simp at this ⊢; omega)).cell 1
        have HM3 := hide (BA2.out.2.1.kept hk3 (by have := BA2.out.2.2.1; simp at this ⊢; omega) (by have := BA2.out.2.2.1; simp at this ⊢; omega))
        have HR3 := hide hr3
        have HK3 : Hid (Kept [p, b] wa w3) := hide (hk3.mono (by simp))
        clear hr3 hk3 t1
        go_wp2_with fail
        refine (rget_at p' b' R width _ HM3.out).mono ?_
        rintro e w4 ⟨rfl, hr4, hk4⟩
        have HB : Hid (Both w w4 p b cap A p' b' (R.get width).2.2) := hide (BA2.out.turned HR3.out HK3.out hr4 (hk4.mono (by simp)))
        clear HM3 HR3 HK3 hr4 hk4 s1
        go_wp2_with fail
        generalize (R.get width).2.2 = R2 at HB
        have m0 : w4.cell? ⟨p', 0, none⟩ = some (.slice (some ⟨b', 0, none⟩) R2.bs.length R2.bs.length) := HB.out.2.1.c0
        have m1 : w4.cell? ⟨p', 1, none⟩ = some (.int .i64 R2.pos) := HB.out.2.1.c1
        have hl2 := HB.out.2.1.len_le
        have hp2 := HB.out.2.1.pos_le
        have gw : IntKind.i64.wrap ((R2.bs.length : Int) - R2.pos) = (R2.bs.length : Int) - R2.pos := IntWalk.i64_in _ (by omega)
        have ht : (((R2.bs.length : Int) - R2.pos) != ((R2.bs.length : Int) - R2.pos)) = false := by simp
        go_region_held3 (fun W => W.cell? ⟨p', 0, none⟩ = some (.slice (some ⟨b', 0, none⟩) R2.bs.length R2.bs.length) ∧ W.cell? ⟨p', 1, none⟩ = some (.int .i64 R2.pos))
          (first | go_keep | assumption)
          (first
            | (go_at_call 21; refine (left_at p b cap A R2 _ ?_).mono ?_; exact HB.out.1; rintro e w5 ⟨rfl, k5, rfl⟩)
            | (go_at_call 22; refine (bytes_at p b cap A R2 _ ?_).mono ?_; exact HB.out.1; rintro e w6 ⟨A6, c6, rfl, hn6, hk6⟩; have z0 := hk6.cell (p := ⟨p', 0, none⟩) (show World.cell? _ ⟨p', 0, none⟩ = _ from m0) (by simp); have z1 := hk6.cell (p := ⟨p', 1, none⟩) (show World.cell? _ ⟨p', 1, none⟩ = _ from m1) (by simp); have N6 := hide hn6; have B6 := hide (Both.kept (HB.out.drewN _) hk6); clear hn6 hk6)
            | (go_at_call 18; refine (bytes_same A6 _ _ _ c6 _ R2.bs _ rfl rfl ?_ ?_ (by omega)).mono ?_; exact N6.out.vals (S := []) (by simp); go_must (exact B6.out.2.1.vals (by simp)); rintro e w7 ⟨rfl, k7, rfl⟩))
        clear m0 m1 gw ht z0 z1
        go_wp2
        go_roundw
        case rel => exact ⟨p, b, cap, A, p', b', R2, j + 1, by omega, rfl, rfl, by go_num, B6.out.drewN k7⟩
        case measure => simp [intOf]; omega

      by_cases hk4 : kind = 4
      · subst hk4
        go_wp2_with fail
        generalize hwa : wr.alloc (.cells #[.int .i64 4, .int .i64 width, .int .i64 n, .slice NA nums.length nc, .slice BA bs.length bc] 31) = wa
        have GA : Hid (Blk wa wr.heap.size 31 #[.int .i64 4, .int .i64 width, .int .i64 n, .slice NA nums.length nc, .slice BA bs.length bc]) := hide (by subst hwa; exact Blk.new _ _ _)
        have BA2 : Hid (Both w wa p b cap A p' b' R) := hide (by subst hwa; exact HBO.out.kept ((Kept.refl [] wr).alloc _))
        have HG : Hid (wr.heap.size ∉ [p, b]) := hide (by have h1 := HBO.out.1.lt; have h2 := HBO.out.2.2.2.2.1; simp; omega)
        have HG2 : Hid (wr.heap.size ∉ [p', b']) := hide (by have h1 := HBO.out.2.1.lt; have h2 := HBO.out.2.1.blt; simp; omega)
        clear hwa hd0 hd1 hd2 hd3 hd4
        generalize wr.heap.size = g at *
        have t2 : wa.cell? ⟨g, 2, none⟩ = some (.int .i64 n) := GA.out.cell 2
        go_wp2_with fail
        refine (row.take_at p b cap A R n _ BA2.out.1).mono ?_
        rintro e w3 ⟨A3, c3, rfl, hn3, hr3, hk3⟩
        have s2 : w3.cell? ⟨g, 2, none⟩ = some (.int .i64 n) := (hk3.blk GA.out (by have := HG.out; simp at this ⊢; omega)).cell 2
        have HM3 := hide (BA2.out.2.1.kept hk3 (by have := BA2.out.2.2.1; simp at this ⊢; omega) (by have := BA2.out.2.2.1; simp at this ⊢; omega))
        have HR3 := hide hr3
        have HK3 : Hid (Kept [p, b] wa w3) := hide (hk3.mono (by simp))
        have HV3 : Hid (Vals w3 [p', b'] A3 ((R.take n).1.map B)) := hide (hn3.vals (by have h1 := BA2.out.2.1.lt; have h2 := BA2.out.2.1.blt; simp; omega))
        clear hr3 hk3 t2 hn3
        go_wp2_with fail
        refine (rtake_at p' b' R n _ HM3.out).mono ?_
        rintro e w4 ⟨A4, c4, rfl, hv4, hr4, hk4⟩
        have HB : Hid (Both w w4 p b cap A p' b' (R.take n).2.2) := hide (BA2.out.turned HR3.out HK3.out hr4 (hk4.mono (by simp)))
        have HV4 : Hid (Vals w4 [] A4 ((R.take n).1.map B)) := hide (hv4 [] (by simp))
        have HV34 : Hid (Vals w4 [] A3 ((R.take n).1.map B)) := hide ((HV3.out.kept hk4 (by simp)).mono (by simp))
        have hlt65 : Hid ((R.take n).1.length ≤ 140737488355328) := hide (by
          have := BA2.out.1.len_le
          unfold Row.take
          split
          · simp; omega
          · simp)
        clear HM3 HR3 HK3 hr4 hk4 s2 hv4
        go_wp2_with fail
        refine (bytes_same A3 A4 _ _ c3 c4 (R.take n).1 _ rfl rfl HV34.out HV4.out hlt65.out).mono ?_
        rintro e w5 ⟨rfl, k5, rfl⟩
        have HB := hide (HB.out.drewN k5)
        generalize w4.drewN k5 = w4 at *
        go_wp2_with fail
        generalize (R.take n).2.2 = R2 at HB
        have m0 : w4.cell? ⟨p', 0, none⟩ = some (.slice (some ⟨b', 0, none⟩) R2.bs.length R2.bs.length) := HB.out.2.1.c0
        have m1 : w4.cell? ⟨p', 1, none⟩ = some (.int .i64 R2.pos) := HB.out.2.1.c1
        have hl2 := HB.out.2.1.len_le
        have hp2 := HB.out.2.1.pos_le
        have gw : IntKind.i64.wrap ((R2.bs.length : Int) - R2.pos) = (R2.bs.length : Int) - R2.pos := IntWalk.i64_in _ (by omega)
        have ht : (((R2.bs.length : Int) - R2.pos) != ((R2.bs.length : Int) - R2.pos)) = false := by simp
        go_region_held3 (fun W => W.cell? ⟨p', 0, none⟩ = some (.slice (some ⟨b', 0, none⟩) R2.bs.length R2.bs.length) ∧ W.cell? ⟨p', 1, none⟩ = some (.int .i64 R2.pos))
          (first | go_keep | assumption)
          (first
            | (go_at_call 21; refine (left_at p b cap A R2 _ ?_).mono ?_; exact HB.out.1; rintro e w5 ⟨rfl, k5, rfl⟩)
            | (go_at_call 22; refine (bytes_at p b cap A R2 _ ?_).mono ?_; exact HB.out.1; rintro e w6 ⟨A6, c6, rfl, hn6, hk6⟩; have z0 := hk6.cell (p := ⟨p', 0, none⟩) (show World.cell? _ ⟨p', 0, none⟩ = _ from m0) (by simp); have z1 := hk6.cell (p := ⟨p', 1, none⟩) (show World.cell? _ ⟨p', 1, none⟩ = _ from m1) (by simp); have N6 := hide hn6; have B6 := hide (Both.kept (HB.out.drewN _) hk6); clear hn6 hk6)
            | (go_at_call 18; refine (bytes_same A6 _ _ _ c6 _ R2.bs _ rfl rfl ?_ ?_ (by omega)).mono ?_; exact N6.out.vals (S := []) (by simp); go_must (exact B6.out.2.1.vals (by simp)); rintro e w7 ⟨rfl, k7, rfl⟩))
        clear m0 m1 gw ht z0 z1
        go_wp2
        go_roundw
        case rel => exact ⟨p, b, cap, A, p', b', R2, j + 1, by omega, rfl, rfl, by go_num, B6.out.drewN k7⟩
        case measure => simp [intOf]; omega

      by_cases hk5 : kind = 5
      · subst hk5
        go_wp2_with fail
        generalize hwa : wr.alloc (.cells #[.int .i64 5, .int .i64 width, .int .i64 n, .slice NA nums.length nc, .slice BA bs.length bc] 31) = wa
        have GA : Hid (Blk wa wr.heap.size 31 #[.int .i64 5, .int .i64 width, .int .i64 n, .slice NA nums.length nc, .slice BA bs.length bc]) := hide (by subst hwa; exact Blk.new _ _ _)
        have BA2 : Hid (Both w wa p b cap A p' b' R) := hide (by subst hwa; exact HBO.out.kept ((Kept.refl [] wr).alloc _))
        have HG : Hid (wr.heap.size ∉ [p, b]) := hide (by have h1 := HBO.out.1.lt; have h2 := HBO.out.2.2.2.2.1; simp; omega)
        have HG2 : Hid (wr.heap.size ∉ [p', b']) := hide (by have h1 := HBO.out.2.1.lt; have h2 := HBO.out.2.1.blt; simp; omega)
        clear hwa hd0 hd1 hd2 hd3 hd4
        generalize wr.heap.size = g at *
        have t4 : wa.cell? ⟨g, 4, none⟩ = some (.slice BA bs.length bc) := GA.out.cell 4
        have hge := BA2.out.2.2.2.2.2
        go_wp2_with fail
        refine (from_at BA bc bs _ (vals_below HVB.out hge (by simp)) HBN.out (by omega)).mono ?_
        rintro e w3 ⟨p3, b3, cap3, A3, rfl, hp3, hb3, hb31, hr3, hk3⟩
        have s4 : w3.cell? ⟨g, 4, none⟩ = some (.slice BA bs.length bc) := (hk3.blk GA.out (by simp)).cell 4
        have hbel3 := hide (hge.trans (hk3.below_of (by simp) hge.size))
        have HR3 := hide hr3
        have hp31 := hr3.lt
        have hsa := hge.size
        clear hr3 hk3 t4 hge
        go_wp2_with fail
        refine (rfrom_ok BA _ bc bs _ rfl hbc (vals_below HVB.out hbel3.out (by simp)) (by omega)).mono ?_
        rintro e w4 ⟨p4, b4, rfl, hp4, hb4, hr4, hk4⟩
        have hsb := hbel3.out.size
        have HB : Hid (Both w w4 p3 b3 cap3 A3 p4 b4 ⟨bs, 0⟩) := hide ⟨HR3.out.kept hk4 (by simp) (by simp), hr4, ⟨by simp; omega, by simp; omega⟩, ⟨by omega, by omega, by omega, by omega⟩, by have := hk4.size; omega, hbel3.out.trans (hk4.below_of (by simp) hbel3.out.size)⟩
        clear HR3 hr4 hk4 s4 hp3 hb3 hb31 hp31 hp4 hb4 hsa hsb
        go_wp2_with fail
        generalize (⟨bs, 0⟩ : Row) = R2 at HB
        have m0 : w4.cell? ⟨p4, 0, none⟩ = some (.slice (some ⟨b4, 0, none⟩) R2.bs.length R2.bs.length) := HB.out.2.1.c0
        have m1 : w4.cell? ⟨p4, 1, none⟩ = some (.int .i64 R2.pos) := HB.out.2.1.c1
        have hl2 := HB.out.2.1.len_le
        have hp2 := HB.out.2.1.pos_le
        have gw : IntKind.i64.wrap ((R2.bs.length : Int) - R2.pos) = (R2.bs.length : Int) - R2.pos := IntWalk.i64_in _ (by omega)
        have ht : (((R2.bs.length : Int) - R2.pos) != ((R2.bs.length : Int) - R2.pos)) = false := by simp
        go_region_held3 (fun W => W.cell? ⟨p4, 0, none⟩ = some (.slice (some ⟨b4, 0, none⟩) R2.bs.length R2.bs.length) ∧ W.cell? ⟨p4, 1, none⟩ = some (.int .i64 R2.pos))
          (first | go_keep | assumption)
          (first
            | (go_at_call 21; refine (left_at p3 b3 cap3 A3 R2 _ ?_).mono ?_; exact HB.out.1; rintro e w5 ⟨rfl, k5, rfl⟩)
            | (go_at_call 22; refine (bytes_at p3 b3 cap3 A3 R2 _ ?_).mono ?_; exact HB.out.1; rintro e w6 ⟨A6, c6, rfl, hn6, hk6⟩; have z0 := hk6.cell (p := ⟨p4, 0, none⟩) (show World.cell? _ ⟨p4, 0, none⟩ = _ from m0) (by simp); have z1 := hk6.cell (p := ⟨p4, 1, none⟩) (show World.cell? _ ⟨p4, 1, none⟩ = _ from m1) (by simp); have N6 := hide hn6; have B6 := hide (Both.kept (HB.out.drewN _) hk6); clear hn6 hk6)
            | (go_at_call 18; refine (bytes_same A6 _ _ _ c6 _ R2.bs _ rfl rfl ?_ ?_ (by omega)).mono ?_; exact N6.out.vals (S := []) (by simp); go_must (exact B6.out.2.1.vals (by simp)); rintro e w7 ⟨rfl, k7, rfl⟩))
        clear m0 m1 gw ht z0 z1
        go_wp2
        go_roundw
        case rel => exact ⟨p3, b3, cap3, A3, p4, b4, R2, j + 1, by omega, rfl, rfl, by go_num, B6.out.drewN k7⟩
        case measure => simp [intOf]; omega

      have e1 : (kind == 1) = false := beq_eq_false_iff_ne.2 hk1
      have e2 : (kind == 2) = false := beq_eq_false_iff_ne.2 hk2
      have e3 : (kind == 3) = false := beq_eq_false_iff_ne.2 hk3
      have e4 : (kind == 4) = false := beq_eq_false_iff_ne.2 hk4
      have e5 : (kind == 5) = false := beq_eq_false_iff_ne.2 hk5
      clear hk1 hk2 hk3 hk4 hk5
      go_wp2_with fail
      generalize hwa : wr.alloc (.cells #[.int .i64 kind, .int .i64 width, .int .i64 n, .slice NA nums.length nc, .slice BA bs.length bc] 31) = wa
      have GA : Hid (Blk wa wr.heap.size 31 #[.int .i64 kind, .int .i64 width, .int .i64 n, .slice NA nums.length nc, .slice BA bs.length bc]) := hide (by subst hwa; exact Blk.new _ _ _)
      have BA2 : Hid (Both w wa p b cap A p' b' R) := hide (by subst hwa; exact HBO.out.kept ((Kept.refl [] wr).alloc _))
      have HG : Hid (wr.heap.size ∉ [p, b]) := hide (by have h1 := HBO.out.1.lt; have h2 := HBO.out.2.2.2.2.1; simp; omega)
      have HG2 : Hid (wr.heap.size ∉ [p', b']) := hide (by have h1 := HBO.out.2.1.lt; have h2 := HBO.out.2.1.blt; simp; omega)
      clear hwa hd0 hd1 hd2 hd3 hd4
      generalize wr.heap.size = g at *

      have HB := BA2
      generalize R = R2 at HB
      have m0 : wa.cell? ⟨p', 0, none⟩ = some (.slice (some ⟨b', 0, none⟩) R2.bs.length R2.bs.length) := HB.out.2.1.c0
      have m1 : wa.cell? ⟨p', 1, none⟩ = some (.int .i64 R2.pos) := HB.out.2.1.c1
      have hl2 := HB.out.2.1.len_le
      have hp2 := HB.out.2.1.pos_le
      have gw : IntKind.i64.wrap ((R2.bs.length : Int) - R2.pos) = (R2.bs.length : Int) - R2.pos := IntWalk.i64_in _ (by omega)
      have ht : (((R2.bs.length : Int) - R2.pos) != ((R2.bs.length : Int) - R2.pos)) = false := by simp
      go_region_held3 (fun W => W.cell? ⟨p', 0, none⟩ = some (.slice (some ⟨b', 0, none⟩) R2.bs.length R2.bs.length) ∧ W.cell? ⟨p', 1, none⟩ = some (.int .i64 R2.pos))
        (first | go_keep | assumption)
        (first
          | (go_at_call 21; refine (left_at p b cap A R2 _ ?_).mono ?_; exact HB.out.1; rintro e w5 ⟨rfl, k5, rfl⟩)
          | (go_at_call 22; refine (bytes_at p b cap A R2 _ ?_).mono ?_; exact HB.out.1; rintro e w6 ⟨A6, c6, rfl, hn6, hk6⟩; have z0 := hk6.cell (p := ⟨p', 0, none⟩) (show World.cell? _ ⟨p', 0, none⟩ = _ from m0) (by simp); have z1 := hk6.cell (p := ⟨p', 1, none⟩) (show World.cell? _ ⟨p', 1, none⟩ = _ from m1) (by simp); have N6 := hide hn6; have B6 := hide (Both.kept (HB.out.drewN _) hk6); clear hn6 hk6)
          | (go_at_call 18; refine (bytes_same A6 _ _ _ c6 _ R2.bs _ rfl rfl ?_ ?_ (by omega)).mono ?_; exact N6.out.vals (S := []) (by simp); go_must (exact B6.out.2.1.vals (by simp)); rintro e w7 ⟨rfl, k7, rfl⟩))
      clear m0 m1 gw ht z0 z1
      go_wp2
      go_roundw
      case rel => exact ⟨p, b, cap, A, p', b', R2, j + 1, by omega, rfl, rfl, by go_num, B6.out.drewN k7⟩
      case measure => simp [intOf]; omega

    · go_wp2_with (go_at_call 7; refine (awake_any _).mono ?_; rintro e w7 ⟨rfl, hb7⟩)
      go_ret
      exact ⟨rfl, below_then hbo.2.2.2.2.2 hb7⟩
end Go.Proofs.Ytgbgckdnkkomcaa.rowPlays
