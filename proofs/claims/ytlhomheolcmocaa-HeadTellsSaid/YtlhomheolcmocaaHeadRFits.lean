/- Package head: Fits of the reference. -/
import Derived.Test.YtlhomheolcmocaaHeadRef
import Derived.Test.YtlhomheolcmocaaHeadFitsAt
namespace Go.Proofs.Ytlhomheolcmocaa.hd
open Go.RowKit Go.Proofs.Ytlhomheolcmocaa.mem Go.Proofs.Ytlhomheolcmocaa.base

set_option maxRecDepth 100000 in
set_option maxHeartbeats 1000000 in
theorem rfits_any (A : Option Addr) (n c : Nat) (bs : List UInt8) (s o l v m : Int) (w : World) (hv : Vals w [] A (bs.map B)) (hl : bs.length = n) (hnc : n ≤ c) (hn : n ≤ 65536) :
    Calls Try.prog 15 #[.slice A n c, posVal s o l v m] w fun e w' => e = .returned (.bool (fits bs s l v m)) ∧ Kept [] w w' := by
  have HV := hide hv
  have HL := hide hl
  clear hv hl
  obtain ⟨u, eu, hu⟩ : ∃ u eu, decode bs = (u, eu) := ⟨_, _, rfl⟩
  have hf : fits bs s l v m = (decide (eu = 0) && (decide (u.g = s) && (decide (u.l = l) && (decide (u.v = v) && decide (m ≤ u.m))))) := by unfold fits; rw [hu]
  have he : eu = 0 ∨ eu = 2 := by
    rcases decode_or bs with ⟨S, _, _, h3⟩ | h3
    · rw [hu, Prod.mk.injEq] at h3
      exact .inl h3.2
    · rw [hu, Prod.mk.injEq] at h3
      exact .inr h3.2
  have HF := hide hf
  have HU := hide hu
  clear hf hu
  obtain ⟨w1, hw1⟩ : ∃ w1, w.alloc (.cells #[.int .i64 s, .int .i64 o, .int .i64 l, .int .i64 v, .int .i64 m] 26) = w1 := ⟨_, rfl⟩
  have hk1 : Kept [] w w1 := by rw [← hw1]; exact (Kept.refl [] w).alloc _
  have hb1 : Blk w1 w.heap.size 26 #[.int .i64 s, .int .i64 o, .int .i64 l, .int .i64 v, .int .i64 m] := by rw [← hw1]; exact Blk.new w _ _
  obtain ⟨g, hg⟩ : ∃ g, w.heap.size = g := ⟨_, rfl⟩
  rw [hg] at hb1
  have HB1 := hide hb1
  have HK1 := hide hk1
  clear hb1 hk1
  unfold posVal
  go_enter Try.func15, Try.ntmps15
  go_wp2_with fail
  refine (rof_any A n c bs _ (HV.out.kept HK1.out (by simp)) HL.out hnc hn).mono ?_
  rintro e w2 ⟨rfl, hk⟩
  rw [HU.out]
  have hb2 := hk.blk HB1.out (by simp)
  have HK2 := hide (HK1.out.trans hk (by simp))
  clear hk HK1 HB1 hw1
  obtain ⟨w3, hw3⟩ : ∃ w3, w2.alloc (.cells u.cells 23) = w3 := ⟨_, rfl⟩
  have hk3 : Kept [] w2 w3 := by rw [← hw3]; exact (Kept.refl [] w2).alloc _
  have hs3 : Blk w3 w2.heap.size 23 u.cells := by rw [← hw3]; exact Blk.new w2 _ _
  obtain ⟨q, hq⟩ : ∃ q, w2.heap.size = q := ⟨_, rfl⟩
  rw [hq] at hs3
  have HK3 := hide (HK2.out.trans hk3 (by simp))
  have hb3 := hk3.blk hb2 (by simp)
  have p0 : w3.cell? ⟨g, 0, none⟩ = some (.int .i64 s) := hb3.cell 0
  have p2 : w3.cell? ⟨g, 2, none⟩ = some (.int .i64 l) := hb3.cell 2
  have p3 : w3.cell? ⟨g, 3, none⟩ = some (.int .i64 v) := hb3.cell 3
  have p4 : w3.cell? ⟨g, 4, none⟩ = some (.int .i64 m) := hb3.cell 4
  obtain ⟨d0, d1, d2, d3⟩ := Hd.cell_at hs3
  clear hk3 hs3 hb2 hb3 HK2
  unfold Hd.val
  unfold Hd.cells at hw3
  rcases he with rfl | rfl
  · by_cases h0 : u.g = s
    · subst h0
      by_cases h1 : u.l = l
      · subst h1
        by_cases h2 : u.v = v
        · subst h2
          by_cases h3 : m ≤ u.m
          · skip
            go_wp2
            go_ret
            exact ⟨by rw [HF.out]; simp [h3], HK3.out⟩
          · have h3' : u.m < m := by omega
            go_wp2
            go_ret
            exact ⟨by rw [HF.out]; simp, HK3.out⟩
        · have h2' : (u.v == v) = false := beq_eq_false_iff_ne.2 h2
          have H2 := hide h2
          clear h2
          go_wp2
          go_ret
          exact ⟨by rw [HF.out]; simp [H2.out], HK3.out⟩
      · have h1' : (u.l == l) = false := beq_eq_false_iff_ne.2 h1
        have H1 := hide h1
        clear h1
        go_wp2
        go_ret
        exact ⟨by rw [HF.out]; simp [H1.out], HK3.out⟩
    · have h0' : (u.g == s) = false := beq_eq_false_iff_ne.2 h0
      have H0 := hide h0
      clear h0
      go_wp2
      go_ret
      exact ⟨by rw [HF.out]; simp [H0.out], HK3.out⟩
  · skip
    go_wp2
    go_ret
    exact ⟨by rw [HF.out]; simp, HK3.out⟩
end Go.Proofs.Ytlhomheolcmocaa.hd
