import Derived.Test.YtolbalafhfpjbaaGreatPUsageFree
namespace Go.Proofs.YtolbalafhfpjbaaGreat.us
set_option linter.unusedSimpArgs false
open Go.RowKit mem base geom
theorem inState_mem {rs : List Rw} {st : Int} {k : Nat} {y : Int} (h : y ∈ inState rs st k) : ∃ i : Nat, y = i ∧ i < k ∧ (rowAt rs (i : Int)).s = st := by
 simp only [inState, List.mem_map, List.mem_filter, List.mem_range, decide_eq_true_eq] at h
 obtain ⟨i, ⟨h1, h2⟩, rfl⟩ := h
 exact ⟨i, rfl, h1, h2⟩
theorem grabs_in {rs : List Rw} {y : Int} (h : y ∈ inState rs 0 rs.length) : grabs rs y = true := by
 obtain ⟨i, rfl, h1, h2⟩ := inState_mem h
 simp [grabs, isSeg, h1, h2]
def backOf (spare : Bool) : Int := if spare then 0 else 2

section
variable {w : World} {p V : Nat} {b s l r q : Int} {rs : List Rw}
theorem take_no (h : TAt w p V b s l r q rs) (spare : Bool) (hn : ((inState rs 0 rs.length).length : Int) ≤ backOf spare) :
  Calls Tryz.prog 201 #[.pointer (some ⟨p, 0, none⟩), .bool spare] w fun e w' => e = .returned (.tuple #[.int .i64 0, .bool false]) ∧ Kept [] w w' := by
 have H := hide h
 have hb := h.bounds
 have hk0 : Kept [] w ((w.alloc (.cells #[.pointer (some ⟨p, 0, none⟩)] 77)).alloc (.cells #[.int .i64 0] 3)) := ((Kept.refl [] w).alloc _).alloc _
 have HT := hide (h.keep hk0)
 have HK := hide hk0
 have HL := hide (inState_length rs 0 rs.length)
 have HN := hide hn
 clear h hk0
 obtain ⟨L, hL⟩ : ∃ L, inState rs 0 rs.length = L := ⟨_, rfl⟩
 have c1 : ((w.alloc (.cells #[.pointer (some ⟨p, 0, none⟩)] 77)).alloc (.cells #[.int .i64 0] 3)).cell? ⟨w.heap.size, 0, none⟩ = some (.pointer (some ⟨p, 0, none⟩)) := ((Blk.new w 77 #[.pointer (some ⟨p, 0, none⟩)]).alloc _).cell 0
 have c2 : ((w.alloc (.cells #[.pointer (some ⟨p, 0, none⟩)] 77)).alloc (.cells #[.int .i64 0] 3)).cell? ⟨w.heap.size + 1, 0, none⟩ = some (.int .i64 0) := by
  have := (Blk.new (w.alloc (.cells #[.pointer (some ⟨p, 0, none⟩)] 77)) 3 #[.int .i64 0]).cell 0
  rwa [World.size_alloc] at this
 have HC := hide (collect_any (w.heap.size) (w.heap.size + 1) (some ⟨p, 0, none⟩) 0 rs (by omega) _ (by simp; omega) (by simp) c1 c2 (.inr ⟨p, V, b, s, l, r, q, rfl, HT.out⟩))
 rw [hL] at HC HL HN
 clear c1 c2 hn hL
 obtain ⟨m, hm⟩ : ∃ m, L.length = m := ⟨_, rfl⟩
 rw [hm] at HC HL HN
 have hle := HL.out
 clear hm
 cases spare
 all_goals
  have hn2 := HN.out
  simp only [backOf, Bool.false_eq_true, if_false, if_true] at hn2
  have hn3 := decide_eq_true hn2
  go_enter Tryz.func201, Tryz.ntmps201
  go_wp2_with fail
  refine (in_any _ 0 _).mono ?_
  rintro e w1 ⟨rfl, rfl⟩
  go_wp2_with fail
  refine HC.out.mono ?_
  rintro e w2 ⟨A, c, rfl, hv, hk⟩
  have HK2 := hide (HK.out.trans hk (by simp))
  clear hv hk
  go_wp2
  go_ret2
  exact ⟨rfl, HK2.out⟩

set_option maxRecDepth 100000 in
set_option maxHeartbeats 1000000 in
theorem take_yes (h : TAt w p V b s l r q rs) (spare : Bool) (x : Int) (L0 : List Int) (hn : inState rs 0 rs.length = x :: L0) (hlen : backOf spare < ((x :: L0).length : Int)) :
  Calls Tryz.prog 201 #[.pointer (some ⟨p, 0, none⟩), .bool spare] w fun e w' => e = .returned (.tuple #[.int .i64 x, .bool true]) ∧ TAt w' p V b s l r q (grabOf rs x) ∧ Kept [V] w w' := by
 have H := hide h
 have hb := h.bounds
 have hVl := h.Vl
 have HG := hide (grabs_in (rs := rs) (y := x) (by rw [hn]; simp))
 have hk0 : Kept [] w ((w.alloc (.cells #[.pointer (some ⟨p, 0, none⟩)] 77)).alloc (.cells #[.int .i64 0] 3)) := ((Kept.refl [] w).alloc _).alloc _
 have HT := hide (h.keep hk0)
 have HK := hide hk0
 have hL := inState_length rs 0 rs.length
 rw [hn] at hL
 clear h hk0
 have c1 : ((w.alloc (.cells #[.pointer (some ⟨p, 0, none⟩)] 77)).alloc (.cells #[.int .i64 0] 3)).cell? ⟨w.heap.size, 0, none⟩ = some (.pointer (some ⟨p, 0, none⟩)) := ((Blk.new w 77 #[.pointer (some ⟨p, 0, none⟩)]).alloc _).cell 0
 have c2 : ((w.alloc (.cells #[.pointer (some ⟨p, 0, none⟩)] 77)).alloc (.cells #[.int .i64 0] 3)).cell? ⟨w.heap.size + 1, 0, none⟩ = some (.int .i64 0) := by
  have := (Blk.new (w.alloc (.cells #[.pointer (some ⟨p, 0, none⟩)] 77)) 3 #[.int .i64 0]).cell 0
  rwa [World.size_alloc] at this
 have HC := hide (collect_any (w.heap.size) (w.heap.size + 1) (some ⟨p, 0, none⟩) 0 rs (by omega) _ (by simp; omega) (by simp) c1 c2 (.inr ⟨p, V, b, s, l, r, q, rfl, HT.out⟩))
 rw [hn] at HC
 clear c1 c2 hn
 obtain ⟨m, hm⟩ : ∃ m, (x :: L0).length = m := ⟨_, rfl⟩
 have hm1 : 1 ≤ m := by rw [← hm]; simp
 rw [hm] at HC hlen hL
 have HM := hide hm
 clear hm
 cases spare
 all_goals
  simp only [backOf, Bool.false_eq_true, if_false, if_true] at hlen
  have hlen2 : ¬ (m : Int) ≤ 0 := by omega
  have hlen3 := decide_eq_false (Int.not_le.2 hlen)
  have hlen4 : (0 : Int) < m := by omega
  have hlen5 : 0 < m := by omega
  have hlen6 : m ≠ 0 := by omega
  go_enter Tryz.func201, Tryz.ntmps201
  go_wp2_with fail
  refine (in_any _ 0 _).mono ?_
  rintro e w1 ⟨rfl, rfl⟩
  go_wp2_with fail
  refine HC.out.mono ?_
  rintro e w2 ⟨A, c, rfl, hv, hk⟩
  have hk2 := HK.out.trans hk (by simp)
  have HK2 := hide hk2
  have HT2 := hide (H.out.keep hk2)
  obtain ⟨ad, rfl, hn0, hc0⟩ := hv [V] (by simp; omega) 0 (I x) rfl
  rw [show ad.add 0 = ad from rfl] at hc0
  unfold I at hc0
  have hn1 : ad.block ∉ [V] := hn0
  clear hv hk hk2 hn0
  go_wp2
  go_region_held3 (fun W => W.cell? ad = some (.int .i64 x))
   (first | exact hc0 | exact d0)
   (first
    | (go_at_call 97; refine (grab_any (HT2.out.keep (Kept.refl [] w2).drew) x).mono ?_; rintro e w3 ⟨rfl, ht3, hk3⟩; have d0 := hk3.cell (p := ad) (show World.cell? _ ad = _ from hc0) hn1; rw [HG.out]))
  have HT3 := hide ht3
  have HK3 := hide hk3
  clear ht3 hk3
  go_wp2
  go_ret2
  exact ⟨rfl, HT3.out, (HK2.out.drew.mono (S' := [V]) (by simp)).trans HK3.out (by simp)⟩
end
end Go.Proofs.YtolbalafhfpjbaaGreat.us
