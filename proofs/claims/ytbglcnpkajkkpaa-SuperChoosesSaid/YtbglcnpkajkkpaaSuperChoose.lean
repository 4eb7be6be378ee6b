/- Package super: Choose. -/
import Derived.Test.YtbglcnpkajkkpaaSuperDecode
namespace Go.Proofs.Ytbglcnpkajkkpaa.super
open Go.RowKit Go.Proofs.Ytbglcnpkajkkpaa.mem Go.Proofs.Ytbglcnpkajkkpaa.base Go.Proofs.Ytbglcnpkajkkpaa.row Go.Proofs.Ytbglcnpkajkkpaa.rowBack Go.Proofs.Ytbglcnpkajkkpaa.fill Go.Proofs.Ytbglcnpkajkkpaa.crc Go.Proofs.Ytbglcnpkajkkpaa.crcMath

/-- What is best behind one more of them. -/
def better (bs : List UInt8) (i : Int) (x : Su × Int × Int) : Su × Int × Int := if (decode bs).1.m > x.1.m then ((decode bs).1, i, 0) else x
theorem choose_eq (a b : List UInt8) : choose a b = better b 1 (better a 0 (Su.zero, 0, 2)) := by
  unfold choose better
  have hz : Su.zero.m = 0 := rfl
  have hm : ∀ bs : List UInt8, 0 ≤ (decode bs).1.m := fun bs => by
    rcases decode_or bs with ⟨S, h1, _, h3⟩ | h3
    · rw [h3]
      have := ((S.may_iff).1 h1).2.2.2.2.1
      show 0 ≤ S.m
      omega
    · rw [h3]
      exact Int.le_refl 0
  have h1 := hm a
  have h2 := hm b
  by_cases ha : (decode a).1.m > 0
  · rw [if_pos (show (decode a).1.m > Su.zero.m by rw [hz]; exact ha), if_pos ha]
  · have e : (decode a).1.m = 0 := by omega
    rw [if_neg (show ¬ (decode a).1.m > Su.zero.m by rw [hz]; exact ha), if_neg ha, hz, e]

theorem pick0 (A1 A2 : Option Addr) (n1 n2 c1 c2 : Nat) (w : World) : (Instr.index 72 (.agg #[.slice A1 n1 c1, .slice A2 n2 c2]) (.int .i64 0)).run Try.prog w = .ok (.slice A1 n1 c1) w := by kernel_rfl
theorem pick1 (A1 A2 : Option Addr) (n1 n2 c1 c2 : Nat) (w : World) : (Instr.index 72 (.agg #[.slice A1 n1 c1, .slice A2 n2 c2]) (.int .i64 1)).run Try.prog w = .ok (.slice A2 n2 c2) w := by kernel_rfl

set_option maxRecDepth 100000 in
set_option maxHeartbeats 1000000 in
theorem choose_any (A1 A2 : Option Addr) (n1 n2 c1 c2 : Nat) (xs ys : List UInt8) (w : World) (hv1 : Vals w [] A1 (xs.map B)) (hl1 : xs.length = n1) (hA1 : A1 = none → c1 = 0) (hn1 : n1 ≤ 65536)
    (hv2 : Vals w [] A2 (ys.map B)) (hl2 : ys.length = n2) (hA2 : A2 = none → c2 = 0) (hn2 : n2 ≤ 65536) :
    Calls Try.prog 17 #[.slice A1 n1 c1, .slice A2 n2 c2] w fun e w' => e = .returned (.tuple #[(choose xs ys).1.val, .int .i64 (choose xs ys).2.1, .int .i64 (choose xs ys).2.2]) ∧ Kept [] w w' := by
  have HV1 := hide hv1
  have HA1 := hide hA1
  have HL1 := hide hl1
  have HV2 := hide hv2
  have HA2 := hide hA2
  have HL2 := hide hl2
  clear hv1 hA1 hl1 hv2 hA2 hl2
  have HC := hide (choose_eq xs ys)
  have i0 := pick0 A1 A2 n1 n2 c1 c2
  have i1 := pick1 A1 A2 n1 n2 c1 c2
  obtain ⟨v0, p0, e0, hx0⟩ : ∃ (v0 : Su) (p0 e0 : Int), (v0, p0, e0) = (Su.zero, (0 : Int), (2 : Int)) := ⟨_, _, _, rfl⟩
  obtain ⟨v1, p1, e1, hx1⟩ : ∃ (v1 : Su) (p1 e1 : Int), better xs 0 (v0, p0, e0) = (v1, p1, e1) := ⟨_, _, _, rfl⟩
  obtain ⟨v2, p2, e2, hx2⟩ : ∃ (v2 : Su) (p2 e2 : Int), better ys 1 (v1, p1, e1) = (v2, p2, e2) := ⟨_, _, _, rfl⟩
  have HX : Hid (choose xs ys = (v2, p2, e2)) := hide (by rw [HC.out, ← hx0, hx1, hx2])
  have HX1 := hide hx1
  have HX2 := hide hx2
  have HZ := hide hx0
  clear HC hx0 hx1 hx2
  obtain ⟨g, hg⟩ : ∃ g, w.heap.size = g := ⟨_, rfl⟩
  obtain ⟨q, hq⟩ : ∃ q, g + 1 = q := ⟨_, rfl⟩
  have hgq : g ≠ q := by omega
  have HGQ : Hid (w.heap.size ≤ q) := hide (by omega)
  obtain ⟨w1, hw1⟩ : ∃ w1, (w.alloc (.cells Su.zero.cells 25)).alloc (.cells Su.zero.cells 25) = w1 := ⟨_, rfl⟩
  have HG : Hid (w.heap.size ≤ g) := hide (Nat.le_of_eq hg)
  have hb0 : Blk w1 g 25 Su.zero.cells := by rw [← hw1, ← hg]; exact (Blk.new w _ _).alloc _
  have hbq : Blk w1 q 25 Su.zero.cells := by
    have := Blk.new (w.alloc (.cells Su.zero.cells 25)) 25 Su.zero.cells
    rw [hw1] at this
    simpa [hg, hq] using this
  have hk1 : Kept [] w w1 := by rw [← hw1]; exact ((Kept.refl [] w).alloc _).alloc _
  have HB1 := hide hb0
  have HQ1 := hide hbq
  have HK1 := hide hk1
  clear hb0 hbq hk1
  have HW := hide hw1
  clear hw1
  go_enter Try.func17, Try.ntmps17
  go_wp2_with fail
  rw [show ((w.alloc (.cells #[.int .i64 0, .int .i64 0, .int .i64 0, .int .i64 0, .int .i64 0] 25)).alloc (.cells #[.int .i64 0, .int .i64 0, .int .i64 0, .int .i64 0, .int .i64 0] 25)) = w1 from HW.out]
  clear HW
  go_loopw [18, 8, 9] (fun i pl er wr => Hid (Kept [] w wr) ∧ Hid (Blk wr g 25 Su.zero.cells) ∧
      ((i = .int .i64 0 ∧ pl = .int .i64 p0 ∧ er = .int .i64 e0 ∧ Hid (Blk wr q 25 v0.cells)) ∨
       (i = .int .i64 1 ∧ pl = .int .i64 p1 ∧ er = .int .i64 e1 ∧ Hid (Blk wr q 25 v1.cells)) ∨
       (i = .int .i64 2 ∧ pl = .int .i64 p2 ∧ er = .int .i64 e2 ∧ Hid (Blk wr q 25 v2.cells)))) (fun i pl er wr => 2 - (intOf i).toNat)
  case atStart =>
    have hz := HZ.out
    rw [Prod.mk.injEq, Prod.mk.injEq] at hz
    obtain ⟨rfl, rfl, rfl⟩ := hz
    exact ⟨HK1, HB1, .inl ⟨rfl, rfl, rfl, HQ1⟩⟩
  case round =>
    obtain ⟨HK, HB, ⟨rfl, rfl, rfl, HQ⟩ | ⟨rfl, rfl, rfl, HQ⟩ | ⟨rfl, rfl, rfl, HQ⟩⟩ := hrel
    · have hdd : better xs 0 (v0, p0, e0) = if (decode xs).1.m > v0.m then ((decode xs).1, 0, 0) else (v0, p0, e0) := rfl
      rw [HX1.out] at hdd
      obtain ⟨u, eu, hu⟩ : ∃ u eu, decode xs = (u, eu) := ⟨_, _, rfl⟩
      rw [hu] at hdd
      have HU := hide hu
      have HD : Hid ((v1, p1, e1) = if u.m > v0.m then (u, 0, 0) else (v0, p0, e0)) := hide hdd
      clear hdd hu
      go_wp2_with fail
      refine (decode_any A1 n1 c1 xs _ (HV1.out.kept HK.out (by simp)) HL1.out HA1.out hn1).mono ?_
      rintro e w2 ⟨rfl, hk⟩
      rw [HU.out]
      have hk2 : Kept [] w w2 := HK.out.trans hk (by simp)
      have hlt := (hk.blk HQ.out (by simp)).lt
      have HK2 := hide (hk2.alloc (.cells u.cells 25))
      have HB2 := hide ((hk.blk HB.out (by simp)).alloc (.cells u.cells 25))
      have HQ2 := hide ((hk.blk HQ.out (by simp)).alloc (.cells u.cells 25))
      have hs : Blk (w2.alloc (.cells u.cells 25)) w2.heap.size 25 u.cells := Blk.new w2 _ _
      obtain ⟨r, hr⟩ : ∃ r, w2.heap.size = r := ⟨_, rfl⟩
      rw [hr] at hs hlt
      obtain ⟨w3, hw3⟩ : ∃ w3, w2.alloc (.cells u.cells 25) = w3 := ⟨_, rfl⟩
      rw [hw3] at HK2 HB2 HQ2 hs
      unfold Su.cells at hw3
      have hqm : w3.cell? ⟨q, 4, none⟩ = some (.int .i64 v0.m) := HQ2.out.cell 4
      have hsm : w3.cell? ⟨r, 4, none⟩ = some (.int .i64 u.m) := hs.cell 4
      have HS2 := hide hs
      clear hk hk2 hs HK HB HQ
      unfold Su.val
      by_cases hgt : u.m > v0.m
      · have hd := HD.out
        rw [if_pos hgt, Prod.mk.injEq, Prod.mk.injEq] at hd
        obtain ⟨rfl, rfl, rfl⟩ := hd
        have f0 := HQ2.out.frozen 0
        have f1 := HQ2.out.frozen 1
        have f2 := HQ2.out.frozen 2
        have f3 := HQ2.out.frozen 3
        have f4 := HQ2.out.frozen 4
        obtain ⟨d0, d1, d2, d3, d4⟩ := Su.cell_at HQ2.out
        obtain ⟨s0, s1, s2, s3, s4⟩ := Su.cell_at HS2.out
        have hbw := Su.put_at v1.k v1.s v1.l v1.i v1.m HQ2.out
        have hkw := Su.put_kept (S := []) v1.k v1.s v1.l v1.i v1.m HK2.out (g := q) (.inr HGQ.out)
        have hbb := HB2.out
        have HBW := hide (Kept.blk (Su.put_kept (S := [q]) v1.k v1.s v1.l v1.i v1.m (Kept.refl [q] _) (g := q) (.inl (by simp))) hbb (by simp; exact hgq))
        have HQW := hide hbw
        have HKW := hide hkw
        clear hbw hkw hbb
        go_wp2
        exact ⟨⟨HKW, HBW, .inr <| .inl ⟨rfl, rfl, rfl, HQW⟩⟩, by simp [intOf]⟩
      · have hd := HD.out
        rw [if_neg hgt, Prod.mk.injEq, Prod.mk.injEq] at hd
        obtain ⟨rfl, rfl, rfl⟩ := hd
        go_wp2
        exact ⟨⟨HK2, HB2, .inr <| .inl ⟨rfl, rfl, rfl, HQ2⟩⟩, by simp [intOf]⟩
    · have hdd : better ys 1 (v1, p1, e1) = if (decode ys).1.m > v1.m then ((decode ys).1, 1, 0) else (v1, p1, e1) := rfl
      rw [HX2.out] at hdd
      obtain ⟨u, eu, hu⟩ : ∃ u eu, decode ys = (u, eu) := ⟨_, _, rfl⟩
      rw [hu] at hdd
      have HU := hide hu
      have HD : Hid ((v2, p2, e2) = if u.m > v1.m then (u, 1, 0) else (v1, p1, e1)) := hide hdd
      clear hdd hu
      go_wp2_with fail
      refine (decode_any A2 n2 c2 ys _ (HV2.out.kept HK.out (by simp)) HL2.out HA2.out hn2).mono ?_
      rintro e w2 ⟨rfl, hk⟩
      rw [HU.out]
      have hk2 : Kept [] w w2 := HK.out.trans hk (by simp)
      have hlt := (hk.blk HQ.out (by simp)).lt
      have HK2 := hide (hk2.alloc (.cells u.cells 25))
      have HB2 := hide ((hk.blk HB.out (by simp)).alloc (.cells u.cells 25))
      have HQ2 := hide ((hk.blk HQ.out (by simp)).alloc (.cells u.cells 25))
      have hs : Blk (w2.alloc (.cells u.cells 25)) w2.heap.size 25 u.cells := Blk.new w2 _ _
      obtain ⟨r, hr⟩ : ∃ r, w2.heap.size = r := ⟨_, rfl⟩
      rw [hr] at hs hlt
      obtain ⟨w3, hw3⟩ : ∃ w3, w2.alloc (.cells u.cells 25) = w3 := ⟨_, rfl⟩
      rw [hw3] at HK2 HB2 HQ2 hs
      unfold Su.cells at hw3
      have hqm : w3.cell? ⟨q, 4, none⟩ = some (.int .i64 v1.m) := HQ2.out.cell 4
      have hsm : w3.cell? ⟨r, 4, none⟩ = some (.int .i64 u.m) := hs.cell 4
      have HS2 := hide hs
      clear hk hk2 hs HK HB HQ
      unfold Su.val
      by_cases hgt : u.m > v1.m
      · have hd := HD.out
        rw [if_pos hgt, Prod.mk.injEq, Prod.mk.injEq] at hd
        obtain ⟨rfl, rfl, rfl⟩ := hd
        have f0 := HQ2.out.frozen 0
        have f1 := HQ2.out.frozen 1
        have f2 := HQ2.out.frozen 2
        have f3 := HQ2.out.frozen 3
        have f4 := HQ2.out.frozen 4
        obtain ⟨d0, d1, d2, d3, d4⟩ := Su.cell_at HQ2.out
        obtain ⟨s0, s1, s2, s3, s4⟩ := Su.cell_at HS2.out
        have hbw := Su.put_at v2.k v2.s v2.l v2.i v2.m HQ2.out
        have hkw := Su.put_kept (S := []) v2.k v2.s v2.l v2.i v2.m HK2.out (g := q) (.inr HGQ.out)
        have hbb := HB2.out
        have HBW := hide (Kept.blk (Su.put_kept (S := [q]) v2.k v2.s v2.l v2.i v2.m (Kept.refl [q] _) (g := q) (.inl (by simp))) hbb (by simp; exact hgq))
        have HQW := hide hbw
        have HKW := hide hkw
        clear hbw hkw hbb
        go_wp2
        exact ⟨⟨HKW, HBW, .inr <| .inr ⟨rfl, rfl, rfl, HQW⟩⟩, by simp [intOf]⟩
      · have hd := HD.out
        rw [if_neg hgt, Prod.mk.injEq, Prod.mk.injEq] at hd
        obtain ⟨rfl, rfl, rfl⟩ := hd
        go_wp2
        exact ⟨⟨HK2, HB2, .inr <| .inr ⟨rfl, rfl, rfl, HQ2⟩⟩, by simp [intOf]⟩
    · have f0 := HB.out.frozen 0
      have f1 := HB.out.frozen 1
      have f2 := HB.out.frozen 2
      have f3 := HB.out.frozen 3
      have f4 := HB.out.frozen 4
      obtain ⟨d0, d1, d2, d3, d4⟩ := Su.cell_at HB.out
      obtain ⟨s0, s1, s2, s3, s4⟩ := Su.cell_at HQ.out
      have hbw := hide (Su.put_at v2.k v2.s v2.l v2.i v2.m HB.out)
      have hkw := hide (Su.put_kept (S := []) v2.k v2.s v2.l v2.i v2.m HK.out (.inr HG.out))
      go_wp2
      generalize (((((wr.setCell ⟨g, 0, none⟩ (.int .i64 v2.k)).setCell ⟨g, 1, none⟩ (.int .i64 v2.s)).setCell ⟨g, 2, none⟩ (.int .i64 v2.l)).setCell ⟨g, 3, none⟩ (.int .i64 v2.i)).setCell ⟨g, 4, none⟩ (.int .i64 v2.m)) = W at hbw hkw ⊢
      obtain ⟨t0, t1, t2, t3, t4⟩ := Su.cell_at hbw.out
      refine bodyPost_ret (v := .tuple #[v2.val, .int .i64 p2, .int .i64 e2]) ?_ rfl ⟨by rw [HX.out], hkw.out⟩
      simp [results, Try.results17, go_sem, t0, t1, t2, t3, t4, Su.val]
end Go.Proofs.Ytbglcnpkajkkpaa.super
