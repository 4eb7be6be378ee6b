/- The reference's SuperBytes and SuperOf. -/
import Derived.Test.YtbglcnpkajkkpaaRefClosed
import Derived.Test.YtbglcnpkajkkpaaSuperDecode
import Derived.Test.YtbglcnpkajkkpaaAlike
namespace Go.Proofs.Ytbglcnpkajkkpaa.super
open Go.RowKit Go.Proofs.Ytbglcnpkajkkpaa.mem Go.Proofs.Ytbglcnpkajkkpaa.base Go.Proofs.Ytbglcnpkajkkpaa.row Go.Proofs.Ytbglcnpkajkkpaa.rowBack Go.Proofs.Ytbglcnpkajkkpaa.fill Go.Proofs.Ytbglcnpkajkkpaa.crc Go.Proofs.Ytbglcnpkajkkpaa.crcMath Go.Proofs.Ytbglcnpkajkkpaa.ref

theorem rbytes_no (S : Su) (w : World) (h : S.may = false) :
    Calls Try.prog 9 #[S.val] w fun e w' => e = .returned (.tuple #[.slice none 0 0, .int .i64 1]) ∧ Kept [] w w' := by
  have HK := hide ((Kept.refl [] w).alloc (.cells #[.int .i64 S.k, .int .i64 S.s, .int .i64 S.l, .int .i64 S.i, .int .i64 S.m] 25))
  unfold Su.val
  go_enter Try.func9, Try.ntmps9
  go_wp2_with fail
  refine (rmay_any S _).mono ?_
  rintro e w1 ⟨rfl, hk⟩
  rw [h]
  have HK1 := hide (HK.out.trans hk (by simp))
  clear hk
  go_wp2
  go_ret2
  exact ⟨rfl, HK1.out⟩

theorem take_body (S : Su) : (rowF 64 S.head).bs.take 60 = S.body := by
  show (S.head ++ List.replicate (64 - S.head.length) 0).take 60 = S.body
  rw [S.head_len]
  unfold Su.body
  rw [List.take_append, S.head_len, List.take_of_length_le (by rw [S.head_len]; omega), List.take_replicate]
  rfl

set_option maxRecDepth 100000 in
theorem rbytes_yes (S : Su) (w : World) (h : S.may = true) :
    Calls Try.prog 9 #[S.val] w fun e w' => ∃ g, e = .returned (.tuple #[.slice (some ⟨g, 0, none⟩) 64 64, .int .i64 0]) ∧ Arr w' g 64 S.bytes ∧ Kept [] w w' := by
  have HB := hide (Blk.new w 25 #[.int .i64 S.k, .int .i64 S.s, .int .i64 S.l, .int .i64 S.i, .int .i64 S.m])
  have HK := hide ((Kept.refl [] w).alloc (.cells #[.int .i64 S.k, .int .i64 S.s, .int .i64 S.l, .int .i64 S.i, .int .i64 S.m] 25))
  have HF := hide (fits_small S h)
  unfold Su.val
  go_enter Try.func9, Try.ntmps9
  go_wp2_with fail
  refine (rmay_any S _).mono ?_
  rintro e w1 ⟨rfl, hk⟩
  rw [h]
  have HB1 := hide (hk.blk HB.out (by simp))
  have HK1 := hide (HK.out.trans hk (by simp))
  clear hk
  have hb1 := HB1.out.lt
  obtain ⟨q, hq⟩ : ∃ q, w.heap.size = q := ⟨_, rfl⟩
  have hq2 := HK1.out.size
  rw [hq] at HB HB1 hb1 hq2 ⊢
  clear HB HK
  go_wp2_with fail
  refine (rbegun_any 64 75 83 _ (by omega) (by omega)).mono ?_
  rintro e w2 ⟨p, g, rfl, hp, hg, hr, hk⟩
  have hp2 := hr.lt
  have hg2 := hr.blt
  have HR2 := hide hr
  have HB2 := hide (hk.blk HB1.out (by simp))
  have HK2 := hide (HK1.out.trans hk (by simp))
  clear hr hk HB1 HK1
  have f0 := HB2.out.cell 0
  have f1 := HB2.out.cell 1
  have f2 := HB2.out.cell 2
  go_wp2_with fail
  refine (rput_at p g _ 1 (some ⟨w2.heap.size, 0, none⟩) [S.k, S.s, S.l] 3 3 _ rfl (HR2.out.kept (S := []) ((Kept.refl _ w2).alloc _) (by simp) (by simp)) (Vals.lit w2 [p, g] _ _ _ ([S.k, S.s, S.l].map I) rfl (by simp; omega)) (by omega)).mono ?_
  rintro e w4 ⟨rfl, hr, hk⟩
  rw [show ((1 : Int)) = ((1 : Nat) : Int) by rfl, rowF_put 64 _ 1 _ rfl HF.out.1 (by simp)] at *
  have hs4 := hk.size
  have HR4 := hide hr
  have HB4 := hide (Kept.lit_blk _ hk HB2.out (by simp; omega))
  have HK4 := hide (HK2.out.lit _ hk (by simp; omega))
  have hs4 : w2.heap.size < w4.heap.size := by simp at hs4; omega
  clear hr hk f0 f1 f2 HR2 HB2 HK2
  have f3 := HB4.out.cell 3
  have f4 := HB4.out.cell 4
  go_wp2_with fail
  refine (rput_at p g _ 4 (some ⟨w4.heap.size, 0, none⟩) [S.i, S.m] 2 2 _ rfl (HR4.out.kept (S := []) ((Kept.refl _ w4).alloc _) (by simp) (by simp)) (Vals.lit w4 [p, g] _ _ _ ([S.i, S.m].map I) rfl (by simp; omega)) (by omega)).mono ?_
  rintro e w5 ⟨rfl, hr, hk⟩
  rw [show ((4 : Int)) = ((4 : Nat) : Int) by rfl, rowF_put 64 _ 4 _ rfl HF.out.2 (by simp [bytesOf_length])] at *
  have HR5 : Hid (RefAt w5 p g (rowF 64 S.head)) := hide hr
  have HK5 := hide (HK4.out.lit _ hk (by simp; omega))
  clear hr hk f3 f4 HR4 HB4 HK4
  go_wp2_with fail
  refine (rclosed_any p g _ _ HR5.out (rowF_len 64 S.head (by rw [S.head_len]; omega))).mono ?_
  rintro e w6 ⟨rfl, ha, hk⟩
  rw [take_body] at ha
  have HA6 := hide ha
  have HK6 := hide (HK5.out.trans hk (by simp; omega))
  clear ha hk
  go_wp2
  go_ret2
  exact ⟨g, rfl, HA6.out, HK6.out⟩

theorem rbytes_any (S : Su) (w : World) :
    Calls Try.prog 9 #[S.val] w fun e w' => ∃ A n c', e = .returned (.tuple #[.slice A n c', .int .i64 (encode S).2]) ∧ n = (encode S).1.length ∧ Vals w' [] A ((encode S).1.map B) ∧ Kept [] w w' := by
  by_cases h : S.may = true
  · have e : encode S = (S.bytes, 0) := if_pos h
    rw [e]
    exact (rbytes_yes S w h).mono fun _ _ ⟨g, h1, h2, h3⟩ => ⟨_, 64, 64, h1, S.bytes_len.symm, h2.vals (by simp), h3⟩
  · have e : encode S = ([], 1) := if_neg h
    rw [e]
    exact (rbytes_no S w ((Bool.not_eq_true _).mp h)).mono fun _ _ ⟨h1, h3⟩ => ⟨none, 0, 0, h1, rfl, Vals.nil _ _ _, h3⟩

theorem decode_starts (bs : List UInt8) (h : startB bs 64 75 83 = false) : decode bs = (Su.zero, 2) :=
  decode_no bs fun S _ e => by
    have h1 := (bytes_start S).1
    have h2 := (bytes_start S).2
    have h3 := S.bytes_len
    rw [e] at h1 h2 h3
    unfold startB at h
    rw [h1, h2, decide_eq_true h3] at h
    cases h
theorem requal_any (A1 A2 : Option Addr) (n1 n2 c1 c2 : Nat) (xs ys : List UInt8) (w : World) (hn1 : xs.length = n1) (hn2 : ys.length = n2) (h1 : Vals w [] A1 (xs.map B)) (h2 : Vals w [] A2 (ys.map B)) (hm : n1 ≤ 140737488355328) :
    Calls Try.prog 31 #[.slice A1 n1 c1, .slice A2 n2 c2] w fun e w' => e = .returned (.bool (decide (xs = ys))) ∧ Kept [] w w' := by
  subst hn1 hn2
  exact (base.equal_any A1 A2 c1 c2 xs ys w h1 h2 hm).mono fun e w' ⟨h, k, hw⟩ => ⟨h, by subst hw; exact (Kept.refl [] w).drewN k⟩

set_option maxRecDepth 100000 in
set_option maxHeartbeats 1000000 in
theorem rof_any (A : Option Addr) (n c : Nat) (bs : List UInt8) (w : World) (hv : Vals w [] A (bs.map B)) (hl : bs.length = n) (hnc : n ≤ c) (hn : n ≤ 65536) :
    Calls Try.prog 11 #[.slice A n c] w fun e w' => e = .returned (.tuple #[(decode bs).1.val, .int .i64 (decode bs).2]) ∧ Kept [] w w' := by
  have HV := hide hv
  have HL := hide hl
  clear hv hl
  have hb0 : Blk ((w.alloc (.cells Su.zero.cells 25)).alloc (.cells Su.zero.cells 25)) w.heap.size 25 Su.zero.cells := (Blk.new w _ _).alloc _
  have hb1 : Blk ((w.alloc (.cells Su.zero.cells 25)).alloc (.cells Su.zero.cells 25)) (w.heap.size + 1) 25 Su.zero.cells := by
    have := Blk.new (w.alloc (.cells Su.zero.cells 25)) 25 Su.zero.cells
    simpa using this
  have hk1 : Kept [] w ((w.alloc (.cells Su.zero.cells 25)).alloc (.cells Su.zero.cells 25)) := ((Kept.refl [] w).alloc _).alloc _
  obtain ⟨g, hg⟩ : ∃ g, w.heap.size = g := ⟨_, rfl⟩
  obtain ⟨q, hq⟩ : ∃ q, g + 1 = q := ⟨_, rfl⟩
  rw [hg] at hb0 hb1
  rw [hq] at hb1
  have HG : Hid (w.heap.size ≤ g) := hide (by omega)
  have HQ : Hid (w.heap.size ≤ q) := hide (by omega)
  have hgq : g ≠ q := by omega
  have HB0 := hide hb0
  have HQ0 := hide hb1
  have HK0 := hide hk1
  clear hb0 hb1 hk1
  go_enter Try.func11, Try.ntmps11
  go_wp2_with fail
  refine (rstarts_any A n c 64 75 83 bs _ (HV.out.kept HK0.out (by simp)) HL.out (by omega)).mono ?_
  rintro e w1 ⟨rfl, hw1⟩
  have hb := HB0.out
  have hs := HQ0.out
  have hk := HK0.out
  rw [hw1] at hb hs hk
  have HB1 : Hid (Blk w1 g 25 Su.zero.cells) := hide hb
  have HQ1 : Hid (Blk w1 q 25 Su.zero.cells) := hide hs
  have HK1 := hide hk
  clear hb hs hk hw1 HB0 HQ0 HK0 hg hq
  by_cases hst : startB bs 64 75 83 = true
  · rw [hst]
    have h64 : n = 64 := by
      unfold startB at hst
      simp only [Bool.and_eq_true, decide_eq_true_eq] at hst
      have := HL.out
      omega
    subst h64
    have hlt := HQ1.out.lt
    have hlt0 := HB1.out.lt
    clear hst
    go_wp2_with fail
    refine (rfrom_ok A 64 c bs _ HL.out hnc (HV.out.kept HK1.out (by simp)) (by omega)).mono ?_
    rintro e w2 ⟨p, b, rfl, hp, hb, hr, hk⟩
    have hpq : p ≠ q := by omega
    have hbq : b ≠ q := by omega
    have hpg : p ≠ g := by omega
    have HPW : Hid (w.heap.size ≤ p) := hide (by have := HK1.out.size; omega)
    have hr0 : (⟨bs, 2⟩ : Row) = r0 bs := (take2 bs (by rw [HL.out]; omega)).symm
    have hr2 := hr.goto 2 (by have := HL.out; dsimp only; omega) 2 rfl
    dsimp only at hr2
    rw [hr0] at hr2
    have c1 := hr.c1
    have f1 := hr.f1
    dsimp only at c1
    have HR2 := hide hr2
    have HB2 := hide ((hk.blk HB1.out (by simp)).far_ hpg.symm 1 (.int .i64 2))
    have HQ2 := hide ((hk.blk HQ1.out (by simp)).far_ hpq.symm 1 (.int .i64 2))
    have HK2 := hide ((HK1.out.trans hk (by simp)).set_ (b := p) (.inr HPW.out) 1 (.int .i64 2))
    clear hr hk hr2 hr0 HB1 HQ1 HK1 hp hb hlt hlt0
    obtain ⟨u, hu⟩ : ∃ u : Su, readOf bs = u := ⟨_, rfl⟩
    have HU := hide hu
    have ek : ((r0 bs).get 1).1 = u.k := by rw [← hu]; exact readOf_k bs
    have es : ((r1 bs).get 1).1 = u.s := by rw [← hu]; exact readOf_s bs
    have el : ((r2 bs).get 1).1 = u.l := by rw [← hu]; exact readOf_l bs
    have ei : ((r3 bs).get 4).1 = u.i := by rw [← hu]; exact readOf_i bs
    have em : ((r4 bs).get 4).1 = u.m := by rw [← hu]; exact readOf_m bs
    have Ek := hide ek
    have Es := hide es
    have El := hide el
    have Ei := hide ei
    have Em := hide em
    clear ek es el ei em hu
    go_wp2_with fail
    refine (rnum_any p b (r0 bs) (r1 bs) 1 u.k _ HR2.out (r1_eq bs) Ek.out).mono ?_
    rintro e w3 ⟨rfl, hr, hk⟩
    have hq3 : Blk w3 q 25 (Su.cells ⟨0, 0, 0, 0, 0⟩) := hk.blk HQ2.out (by simp; exact Ne.symm hpq)
    have d3 : w3.cell? ⟨q, 0, none⟩ = some (.int .i64 0) := hq3.cell 0
    have f3 := hq3.frozen 0
    have HQ3 : Hid (Blk (w3.setCell ⟨q, 0, none⟩ (.int .i64 u.k)) q 25 (Su.cells ⟨u.k, 0, 0, 0, 0⟩)) := hide (hq3.set_ 0 (.int .i64 u.k))
    have hks : Kept [q] w3 (w3.setCell ⟨q, 0, none⟩ (.int .i64 u.k)) := (Kept.refl [q] w3).set_ (b := q) (.inl (by simp)) 0 (.int .i64 u.k)
    have HR3 := hide (hr.kept hks (by simp; exact hpq) (by simp; exact hbq))
    have HB3 := hide (hks.blk (hk.blk HB2.out (by simp; exact Ne.symm hpg)) (by simp; exact hgq))
    have HK3 := hide ((HK2.out.trans hk (by simp; exact HPW.out)).trans hks (by simp; exact HQ.out))
    clear hr hk hks hq3 HR2 HB2 HQ2 HK2 c1 f1
    go_wp2_with fail
    refine (rnum_any p b (r1 bs) (r2 bs) 1 u.s _ HR3.out (r2_eq bs) Es.out).mono ?_
    rintro e w4 ⟨rfl, hr, hk⟩
    have hq4 : Blk w4 q 25 (Su.cells ⟨u.k, 0, 0, 0, 0⟩) := hk.blk HQ3.out (by simp; exact Ne.symm hpq)
    have d4 : w4.cell? ⟨q, 1, none⟩ = some (.int .i64 0) := hq4.cell 1
    have f4 := hq4.frozen 1
    have HQ4 : Hid (Blk (w4.setCell ⟨q, 1, none⟩ (.int .i64 u.s)) q 25 (Su.cells ⟨u.k, u.s, 0, 0, 0⟩)) := hide (hq4.set_ 1 (.int .i64 u.s))
    have hks : Kept [q] w4 (w4.setCell ⟨q, 1, none⟩ (.int .i64 u.s)) := (Kept.refl [q] w4).set_ (b := q) (.inl (by simp)) 1 (.int .i64 u.s)
    have HR4 := hide (hr.kept hks (by simp; exact hpq) (by simp; exact hbq))
    have HB4 := hide (hks.blk (hk.blk HB3.out (by simp; exact Ne.symm hpg)) (by simp; exact hgq))
    have HK4 := hide ((HK3.out.trans hk (by simp; exact HPW.out)).trans hks (by simp; exact HQ.out))
    clear hr hk hks hq4 HR3 HB3 HQ3 HK3 d3 f3
    go_wp2_with fail
    refine (rnum_any p b (r2 bs) (r3 bs) 1 u.l _ HR4.out (r3_eq bs) El.out).mono ?_
    rintro e w5 ⟨rfl, hr, hk⟩
    have hq5 : Blk w5 q 25 (Su.cells ⟨u.k, u.s, 0, 0, 0⟩) := hk.blk HQ4.out (by simp; exact Ne.symm hpq)
    have d5 : w5.cell? ⟨q, 2, none⟩ = some (.int .i64 0) := hq5.cell 2
    have f5 := hq5.frozen 2
    have HQ5 : Hid (Blk (w5.setCell ⟨q, 2, none⟩ (.int .i64 u.l)) q 25 (Su.cells ⟨u.k, u.s, u.l, 0, 0⟩)) := hide (hq5.set_ 2 (.int .i64 u.l))
    have hks : Kept [q] w5 (w5.setCell ⟨q, 2, none⟩ (.int .i64 u.l)) := (Kept.refl [q] w5).set_ (b := q) (.inl (by simp)) 2 (.int .i64 u.l)
    have HR5 := hide (hr.kept hks (by simp; exact hpq) (by simp; exact hbq))
    have HB5 := hide (hks.blk (hk.blk HB4.out (by simp; exact Ne.symm hpg)) (by simp; exact hgq))
    have HK5 := hide ((HK4.out.trans hk (by simp; exact HPW.out)).trans hks (by simp; exact HQ.out))
    clear hr hk hks hq5 HR4 HB4 HQ4 HK4 d4 f4
    go_wp2_with fail
    refine (rnum_any p b (r3 bs) (r4 bs) 4 u.i _ HR5.out (r4_eq bs) Ei.out).mono ?_
    rintro e w6 ⟨rfl, hr, hk⟩
    have hq6 : Blk w6 q 25 (Su.cells ⟨u.k, u.s, u.l, 0, 0⟩) := hk.blk HQ5.out (by simp; exact Ne.symm hpq)
    have d6 : w6.cell? ⟨q, 3, none⟩ = some (.int .i64 0) := hq6.cell 3
    have f6 := hq6.frozen 3
    have HQ6 : Hid (Blk (w6.setCell ⟨q, 3, none⟩ (.int .i64 u.i)) q 25 (Su.cells ⟨u.k, u.s, u.l, u.i, 0⟩)) := hide (hq6.set_ 3 (.int .i64 u.i))
    have hks : Kept [q] w6 (w6.setCell ⟨q, 3, none⟩ (.int .i64 u.i)) := (Kept.refl [q] w6).set_ (b := q) (.inl (by simp)) 3 (.int .i64 u.i)
    have HR6 := hide (hr.kept hks (by simp; exact hpq) (by simp; exact hbq))
    have HB6 := hide (hks.blk (hk.blk HB5.out (by simp; exact Ne.symm hpg)) (by simp; exact hgq))
    have HK6 := hide ((HK5.out.trans hk (by simp; exact HPW.out)).trans hks (by simp; exact HQ.out))
    clear hr hk hks hq6 HR5 HB5 HQ5 HK5 d5 f5
    go_wp2_with fail
    refine (rnum_any p b (r4 bs) (((r4 bs).get 4).2.2) 4 u.m _ HR6.out (rfl) Em.out).mono ?_
    rintro e w7 ⟨rfl, hr, hk⟩
    have hq7 : Blk w7 q 25 (Su.cells ⟨u.k, u.s, u.l, u.i, 0⟩) := hk.blk HQ6.out (by simp; exact Ne.symm hpq)
    have d7 : w7.cell? ⟨q, 4, none⟩ = some (.int .i64 0) := hq7.cell 4
    have f7 := hq7.frozen 4
    have HQ7 : Hid (Blk (w7.setCell ⟨q, 4, none⟩ (.int .i64 u.m)) q 25 (Su.cells ⟨u.k, u.s, u.l, u.i, u.m⟩)) := hide (hq7.set_ 4 (.int .i64 u.m))
    have hks : Kept [q] w7 (w7.setCell ⟨q, 4, none⟩ (.int .i64 u.m)) := (Kept.refl [q] w7).set_ (b := q) (.inl (by simp)) 4 (.int .i64 u.m)
    have HR7 := hide (hr.kept hks (by simp; exact hpq) (by simp; exact hbq))
    have HB7 := hide (hks.blk (hk.blk HB6.out (by simp; exact Ne.symm hpg)) (by simp; exact hgq))
    have HK7 := hide ((HK6.out.trans hk (by simp; exact HPW.out)).trans hks (by simp; exact HQ.out))
    clear hr hk hks hq7 HR6 HB6 HQ6 HK6 d6 f6
    obtain ⟨a0, a1, a2, a3, a4⟩ := Su.cell_at HQ7.out
    go_wp2_with fail
    refine (rbytes_any u _).mono ?_
    rintro e w8 ⟨A3, n3, c3, rfl, hn3, hnb, hk⟩
    have HK8 := hide (HK7.out.trans hk (by simp))
    have HB8 := hide (hk.blk HB7.out (by simp))
    have HQ8 := hide (hk.blk HQ7.out (by simp))
    have HN8 := hide hnb
    have HV8 := hide (HV.out.kept HK8.out (by simp))
    clear hk HK7 HB7 HQ7 HR7 hnb a0 a1 a2 a3 a4
    have hd : decode bs = if u.may = true ∧ u.bytes = bs then (u, 0) else (Su.zero, 2) := by unfold decode; rw [HU.out]
    by_cases hm : u.may = true
    · have e1 : encode u = (u.bytes, 0) := if_pos hm
      rw [e1] at HN8 hn3 ⊢
      have HN := hide hn3
      by_cases hq : u.bytes = bs
      · rw [if_pos ⟨hm, hq⟩] at hd
        have HD := hide hd
        clear hd e1 hn3
        go_wp2_with fail
        refine (requal_any A3 A n3 64 c3 c u.bytes bs _ HN.out.symm HL.out HN8.out HV8.out (by rw [HN.out, u.bytes_len]; omega)).mono ?_
        rintro e w9 ⟨rfl, hk⟩
        rw [decide_eq_true hq]
        have HK9 := hide (HK8.out.trans hk (by simp))
        have HB9 := hide (hk.blk HB8.out (by simp))
        obtain ⟨a0, a1, a2, a3, a4⟩ := Su.cell_at (hk.blk HQ8.out (by simp))
        clear hk
        have f0 := HB9.out.frozen 0
        have f1 := HB9.out.frozen 1
        have f2 := HB9.out.frozen 2
        have f3 := HB9.out.frozen 3
        have f4 := HB9.out.frozen 4
        obtain ⟨d0, d1, d2, d3, d4⟩ := Su.cell_at HB9.out
        have hbw := hide (Su.put_at u.k u.s u.l u.i u.m HB9.out)
        have hkw := hide (Su.put_kept (S := []) u.k u.s u.l u.i u.m HK9.out (.inr HG.out))
        go_wp2
        generalize (((((w9.setCell ⟨g, 0, none⟩ (.int .i64 u.k)).setCell ⟨g, 1, none⟩ (.int .i64 u.s)).setCell ⟨g, 2, none⟩ (.int .i64 u.l)).setCell ⟨g, 3, none⟩ (.int .i64 u.i)).setCell ⟨g, 4, none⟩ (.int .i64 u.m)) = W at hbw hkw ⊢
        obtain ⟨t0, t1, t2, t3, t4⟩ := Su.cell_at hbw.out
        refine bodyPost_ret (v := .tuple #[u.val, .int .i64 0]) ?_ rfl ⟨by rw [HD.out], hkw.out⟩
        simp [results, Try.results11, go_sem, t0, t1, t2, t3, t4, Su.val]
      · rw [if_neg (fun h => hq h.2)] at hd
        have HD := hide hd
        clear hd e1 hn3
        go_wp2_with fail
        refine (requal_any A3 A n3 64 c3 c u.bytes bs _ HN.out.symm HL.out HN8.out HV8.out (by rw [HN.out, u.bytes_len]; omega)).mono ?_
        rintro e w9 ⟨rfl, hk⟩
        rw [decide_eq_false hq]
        have HK9 := hide (HK8.out.trans hk (by simp))
        have HB9 := hide (hk.blk HB8.out (by simp))
        clear hk
        have f0 := HB9.out.frozen 0
        have f1 := HB9.out.frozen 1
        have f2 := HB9.out.frozen 2
        have f3 := HB9.out.frozen 3
        have f4 := HB9.out.frozen 4
        obtain ⟨d0, d1, d2, d3, d4⟩ := Su.cell_at HB9.out
        have hbw := hide (Su.put_at 0 0 0 0 0 HB9.out)
        have hkw := hide (Su.put_kept (S := []) 0 0 0 0 0 HK9.out (.inr HG.out))
        go_wp2
        generalize (((((w9.setCell ⟨g, 0, none⟩ (.int .i64 0)).setCell ⟨g, 1, none⟩ (.int .i64 0)).setCell ⟨g, 2, none⟩ (.int .i64 0)).setCell ⟨g, 3, none⟩ (.int .i64 0)).setCell ⟨g, 4, none⟩ (.int .i64 0)) = W at hbw hkw ⊢
        obtain ⟨t0, t1, t2, t3, t4⟩ := Su.cell_at hbw.out
        refine bodyPost_ret (v := .tuple #[Su.zero.val, .int .i64 2]) ?_ rfl ⟨by rw [HD.out], hkw.out⟩
        simp [results, Try.results11, go_sem, t0, t1, t2, t3, t4, Su.val, Su.zero]
    · have e1 : encode u = ([], 1) := if_neg hm
      rw [e1] at HN8 hn3 ⊢
      rw [if_neg (fun h => hm h.1)] at hd
      have HD := hide hd
      clear hd e1 hn3
      have f0 := HB8.out.frozen 0
      have f1 := HB8.out.frozen 1
      have f2 := HB8.out.frozen 2
      have f3 := HB8.out.frozen 3
      have f4 := HB8.out.frozen 4
      obtain ⟨d0, d1, d2, d3, d4⟩ := Su.cell_at HB8.out
      have hbw := hide (Su.put_at 0 0 0 0 0 HB8.out)
      have hkw := hide (Su.put_kept (S := []) 0 0 0 0 0 HK8.out (.inr HG.out))
      go_wp2
      generalize (((((w8.setCell ⟨g, 0, none⟩ (.int .i64 0)).setCell ⟨g, 1, none⟩ (.int .i64 0)).setCell ⟨g, 2, none⟩ (.int .i64 0)).setCell ⟨g, 3, none⟩ (.int .i64 0)).setCell ⟨g, 4, none⟩ (.int .i64 0)) = W at hbw hkw ⊢
      obtain ⟨t0, t1, t2, t3, t4⟩ := Su.cell_at hbw.out
      refine bodyPost_ret (v := .tuple #[Su.zero.val, .int .i64 2]) ?_ rfl ⟨by rw [HD.out], hkw.out⟩
      simp [results, Try.results11, go_sem, t0, t1, t2, t3, t4, Su.val, Su.zero]
  · have hf := (Bool.not_eq_true _).mp hst
    have HD := hide (decode_starts bs hf)
    rw [hf]
    clear hst hf
    obtain ⟨a0, a1, a2, a3, a4⟩ := Su.cell_at HQ1.out
    simp only [Su.zero] at a0 a1 a2 a3 a4
    have f0 := HB1.out.frozen 0
    have f1 := HB1.out.frozen 1
    have f2 := HB1.out.frozen 2
    have f3 := HB1.out.frozen 3
    have f4 := HB1.out.frozen 4
    obtain ⟨d0, d1, d2, d3, d4⟩ := Su.cell_at HB1.out
    have hbw := hide (Su.put_at 0 0 0 0 0 HB1.out)
    have hkw := hide (Su.put_kept (S := []) 0 0 0 0 0 HK1.out (.inr HG.out))
    go_wp2
    generalize (((((w1.setCell ⟨g, 0, none⟩ (.int .i64 0)).setCell ⟨g, 1, none⟩ (.int .i64 0)).setCell ⟨g, 2, none⟩ (.int .i64 0)).setCell ⟨g, 3, none⟩ (.int .i64 0)).setCell ⟨g, 4, none⟩ (.int .i64 0)) = W at hbw hkw ⊢
    obtain ⟨t0, t1, t2, t3, t4⟩ := Su.cell_at hbw.out
    refine bodyPost_ret (v := .tuple #[Su.zero.val, .int .i64 2]) ?_ rfl ⟨by rw [HD.out], hkw.out⟩
    simp [results, Try.results11, go_sem, t0, t1, t2, t3, t4, Su.val, Su.zero]
end Go.Proofs.Ytbglcnpkajkkpaa.super
