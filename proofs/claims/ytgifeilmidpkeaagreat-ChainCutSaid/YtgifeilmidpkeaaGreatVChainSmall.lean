import Derived.Test.YtgifeilmidpkeaaGreatVChainMath
set_option maxRecDepth 100000
namespace Go.Proofs.YtgifeilmidpkeaaGreat.sc
set_option linter.unusedSimpArgs false
open Go.RowKit mem base disk geom owns
open record (Rc RcIn RcAt put5 put5_kept cell5)
open item (It Items)
def CcAt (w : World) (c d gp : Nat) (p e : Ps) (er : Int) : Prop :=
 Blk w c 172 #[.pointer (some ⟨d, 0, none⟩), .pointer (some ⟨gp, 0, none⟩), .int .i64 p.s, .int .i64 p.o, .int .i64 p.l, .int .i64 p.v, .int .i64 p.m, .int .i64 e.s, .int .i64 e.o, .int .i64 e.l, .int .i64 e.v, .int .i64 e.m, .int .i64 er]
section
variable {w w' : World} {S : List Nat} {c d gp : Nat} {p e : Ps} {er : Int}
theorem CcAt.kept (h : CcAt w c d gp p e er) (k : Kept S w w') (hc : c ∉ S) : CcAt w' c d gp p e er := k.blk h hc
theorem CcAt.lt (h : CcAt w c d gp p e er) : c < w.heap.size := Blk.lt h
theorem CcAt.two (h : CcAt w c d gp p e er) : w.cell? ⟨c, 0, none⟩ = some (.pointer (some ⟨d, 0, none⟩)) ∧ w.cell? ⟨c, 1, none⟩ = some (.pointer (some ⟨gp, 0, none⟩)) := ⟨Blk.cell h 0, Blk.cell h 1⟩
theorem CcAt.from_ (h : CcAt w c d gp p e er) : w.cell? ⟨c, 2, none⟩ = some (.int .i64 p.s) ∧ w.cell? ⟨c, 3, none⟩ = some (.int .i64 p.o) ∧ w.cell? ⟨c, 4, none⟩ = some (.int .i64 p.l) ∧ w.cell? ⟨c, 5, none⟩ = some (.int .i64 p.v) ∧ w.cell? ⟨c, 6, none⟩ = some (.int .i64 p.m) := ⟨Blk.cell h 2, Blk.cell h 3, Blk.cell h 4, Blk.cell h 5, Blk.cell h 6⟩
theorem CcAt.end_ (h : CcAt w c d gp p e er) : w.cell? ⟨c, 7, none⟩ = some (.int .i64 e.s) ∧ w.cell? ⟨c, 8, none⟩ = some (.int .i64 e.o) ∧ w.cell? ⟨c, 9, none⟩ = some (.int .i64 e.l) ∧ w.cell? ⟨c, 10, none⟩ = some (.int .i64 e.v) ∧ w.cell? ⟨c, 11, none⟩ = some (.int .i64 e.m) ∧ w.cell? ⟨c, 12, none⟩ = some (.int .i64 er) := ⟨Blk.cell h 7, Blk.cell h 8, Blk.cell h 9, Blk.cell h 10, Blk.cell h 11, Blk.cell h 12⟩
theorem CcAt.frozen (h : CcAt w c d gp p e er) (i : Nat) : w.frozen? ⟨c, i, none⟩ = false := Blk.frozen h i
theorem CcAt.setEnd (h : CcAt w c d gp p e er) (y : Ps) : CcAt (((((w.setCell ⟨c, 7, none⟩ (.int .i64 y.s)).setCell ⟨c, 8, none⟩ (.int .i64 y.o)).setCell ⟨c, 9, none⟩ (.int .i64 y.l)).setCell ⟨c, 10, none⟩ (.int .i64 y.v)).setCell ⟨c, 11, none⟩ (.int .i64 y.m)) c d gp p y er :=
 Blk.set_ (Blk.set_ (Blk.set_ (Blk.set_ (Blk.set_ h 7 _) 8 _) 9 _) 10 _) 11 _
theorem CcAt.setErr (h : CcAt w c d gp p e er) (y : Int) : CcAt (w.setCell ⟨c, 12, none⟩ (.int .i64 y)) c d gp p e y := Blk.set_ h 12 _
end
theorem cnew_any (d gp : Nat) (p : Ps) (w : World) :
  Calls Tryz.prog 36 #[.pointer (some ⟨d, 0, none⟩), .pointer (some ⟨gp, 0, none⟩), p.val] w fun e w' => ∃ c, e = .returned (.pointer (some ⟨c, 0, none⟩)) ∧ w.heap.size ≤ c ∧ CcAt w' c d gp p p 0 ∧ Kept [] w w' := by
 have hk0 := (Kept.refl [] w).alloc (.cells #[.int .i64 p.s, .int .i64 p.o, .int .i64 p.l, .int .i64 p.v, .int .i64 p.m] 24)
 have hb0 := Blk.new w 24 #[.int .i64 p.s, .int .i64 p.o, .int .i64 p.l, .int .i64 p.v, .int .i64 p.m]
 obtain ⟨g, hg⟩ : ∃ g, w.heap.size = g := ⟨_, rfl⟩
 rw [hg] at hb0
 have HG := hide (Nat.le_of_eq hg)
 obtain ⟨w0, hw0⟩ : ∃ w0, w.alloc (.cells #[.int .i64 p.s, .int .i64 p.o, .int .i64 p.l, .int .i64 p.v, .int .i64 p.m] 24) = w0 := ⟨_, rfl⟩
 rw [hw0] at hb0 hk0
 obtain ⟨c0, c1, c2, c3, c4⟩ := cell5 hb0
 have HK0 := hide hk0
 have HX := hide (show w.heap.size ≤ w0.heap.size from hk0.size)
 clear hk0 hb0
 unfold Ps.val
 go_enter Tryz.func36, Tryz.ntmps36
 go_wp2
 go_ret
 refine ⟨w0.heap.size, rfl, HX.out, Blk.new w0 _ _, HK0.out.alloc _⟩
theorem cnew_nil (P : Option Addr) (p : Ps) (w : World) :
  Calls Tryz.prog 36 #[.pointer none, .pointer P, p.val] w fun e w' => e = .returned (.pointer none) ∧ Kept [] w w' := by
 have HK := hide ((Kept.refl [] w).alloc (.cells #[.int .i64 p.s, .int .i64 p.o, .int .i64 p.l, .int .i64 p.v, .int .i64 p.m] 24))
 unfold Ps.val
 go_enter Tryz.func36, Tryz.ntmps36
 go_wp2
 go_ret
 exact ⟨rfl, HK.out⟩
theorem cend_any (c d gp : Nat) (p e : Ps) (er : Int) (w : World) (h : CcAt w c d gp p e er) :
  Calls Tryz.prog 37 #[.pointer (some ⟨c, 0, none⟩)] w fun e' w' => e' = .returned e.val ∧ Kept [] w w' := by
 have hk0 := (Kept.refl [] w).alloc (.cells #[.int .i64 0, .int .i64 0, .int .i64 0, .int .i64 0, .int .i64 0] 24)
 obtain ⟨c0, c1, c2, c3, c4, _⟩ := (h.kept hk0 (by simp)).end_
 have HKA := hide (fun vs : Array Value => (Kept.refl [] w).alloc (.cells vs 24))
 clear hk0
 unfold Ps.val
 go_enter Tryz.func37, Tryz.ntmps37
 go_wp2
 refine bodyPost_ret (v := .agg #[.int .i64 e.s, .int .i64 e.o, .int .i64 e.l, .int .i64 e.v, .int .i64 e.m]) (by simp [results, Tryz.results37, go_sem]) rfl ⟨rfl, HKA.out _⟩
theorem cerr_any (c d gp : Nat) (p e : Ps) (er : Int) (w : World) (h : CcAt w c d gp p e er) :
  Calls Tryz.prog 38 #[.pointer (some ⟨c, 0, none⟩)] w fun e' w' => e' = .returned (.int .i64 er) ∧ w = w' := by
 obtain ⟨_, _, _, _, _, c5⟩ := h.end_
 go_enter Tryz.func38, Tryz.ntmps38
 go_wp2
 go_ret
 exact ⟨rfl, rfl⟩
theorem cerr_nil (w : World) :
  Calls Tryz.prog 38 #[.pointer none] w fun e' w' => e' = .returned (.int .i64 1) ∧ w = w' := by
 go_enter Tryz.func38, Tryz.ntmps38
 go_wp2
 go_ret
 exact ⟨rfl, rfl⟩
theorem crecords_any (P : Option Addr) (w : World) :
  Calls Tryz.prog 97 #[.pointer P] w fun e w' => e = .returned (.func (.func 162) #[] #[.pointer (some ⟨w.heap.size, 0, none⟩)]) ∧ w' = w.alloc (.cells #[.pointer P] 65) := by
 have hmf : ∀ (fn : Fn) (first cap : Array Value) (w : World), (Instr.makeFunc fn first cap).run Tryz.prog w = .ok (.func fn first cap) w := fun _ _ _ _ => rfl
 go_enter Tryz.func97, Tryz.ntmps97
 go_wp2
 go_ret
 exact ⟨by simp, rfl⟩

theorem cisNext_any (i : It) (w : World) :
  Calls Tryz.prog 225 #[i.val] w fun e w' => e = .returned (.bool (decide (i.k = 7))) ∧ Kept [] w w' := by
 have hk := (Kept.refl [] w).alloc (.cells i.cells 98)
 have HK := hide hk
 clear hk
 obtain ⟨k, b, c, v⟩ := i
 obtain ⟨t, ht⟩ : ∃ t, (k == (7 : Int)) = t := ⟨_, rfl⟩
 have HT : Hid (decide (k = 7) = t) := hide (by rw [← ht]; exact (Bool.beq_eq_decide_eq k 7).symm)
 unfold item.It.val
 go_enter Tryz.func225, Tryz.ntmps225
 go_wp2
 go_ret
 exact ⟨by rw [HT.out]; rfl, HK.out⟩
inductive NextIdx (l : List It) : Int → Prop where
 | no (h : l.find? (fun i => decide (i.k = 7)) = none) : NextIdx l (-1)
 | yes (j : Nat) (i : It) (hj : l[j]? = some i) (h : l.find? (fun i => decide (i.k = 7)) = some i) : NextIdx l j
theorem find_at {l : List It} {k : Nat} {i : It} (h1 : ((l.take k).any fun i => decide (i.k = 7)) = false) (h2 : l[k]? = some i) (h3 : i.k = 7) : l.find? (fun i => decide (i.k = 7)) = some i := by
 have hk : k < l.length := (List.getElem?_eq_some_iff.1 h2).1
 have e : l = l.take k ++ i :: l.drop (k + 1) := by
  obtain ⟨_, h4⟩ := List.getElem?_eq_some_iff.1 h2
  rw [← h4, List.getElem_cons_drop, List.take_append_drop]
 rw [e, List.find?_append, List.find?_eq_none.2 (by simpa [List.any_eq_false] using h1)]
 simp [h3]

set_option maxHeartbeats 1000000 in
theorem cindex_any (L : Option Addr) (n c : Nat) (l : List It) (w : World) (hv : Items w [] L l) (hl : l.length = n) (hn : n ≤ 1000) :
  Calls Tryz.prog 224 #[.slice L n c, .func (.func 225) #[] #[]] w fun e w' => ∃ k : Int, e = .returned (.int .i64 k) ∧ NextIdx l k ∧ Kept [] w w' := by
 have HV := hide hv
 have HL := hide hl
 clear hv hl
 go_enter Tryz.func224, Tryz.ntmps224
 go_wp2
 go_loopw [8] (fun i wr => ∃ k : Nat, k ≤ n ∧ i = .int .i64 k ∧ Hid (((l.take k).any fun i => decide (i.k = 7)) = false) ∧ Hid (Kept [] w wr)) (fun i wr => n - (intOf i).toNat)
 case atStart => exact ⟨0, by omega, rfl, hide rfl, hide (Kept.refl _ _)⟩
 case round =>
  obtain ⟨k, hk, rfl, HM1, HK1⟩ := hrel
  by_cases hlt : k < n
  ·obtain ⟨i, hi⟩ : ∃ i, l[k]? = some i := ⟨_, List.getElem?_eq_getElem (by rw [HL.out]; exact hlt)⟩
   obtain ⟨ad, rfl, _, c0, c1, c2, c3⟩ := (HV.out.kept HK1.out (by simp)).at_ hi
   have HI := hide hi
   clear hi
   go_wp2_with fail
   refine (cisNext_any i _).mono ?_
   rintro e w2 ⟨rfl, hk2⟩
   have HK2 := hide (HK1.out.trans hk2 (by simp))
   clear hk2 c0 c1 c2 c3
   by_cases hm : i.k = 7
   ·have HE := hide (NextIdx.yes k i HI.out (find_at HM1.out HI.out hm))
    rw [decide_eq_true hm]
    clear hm
    go_wp2
    go_ret
    exact ⟨(k : Int), rfl, HE.out, HK2.out⟩
   ·rw [decide_eq_false hm]
    have HM2 : Hid (((l.take (k + 1)).any fun i => decide (i.k = 7)) = false) := hide (by
     rw [List.take_add_one, HI.out, List.any_append, HM1.out]
     simp [hm])
    clear hm
    go_wp2
    go_roundw
    case rel => exact ⟨k + 1, by omega, by go_num, HM2, HK2⟩
    case measure => simp [intOf]; omega
  ·obtain rfl : k = n := by omega
   have HE : Hid (NextIdx l (-1)) := hide (by
    have := HM1.out
    rw [List.take_of_length_le (by rw [HL.out]; exact Nat.le_refl _)] at this
    exact .no (List.find?_eq_none.2 (by simpa [List.any_eq_false] using this)))
   go_wp2
   go_ret
   exact ⟨-1, rfl, HE.out, HK1.out⟩
theorem field_s (a c z : Int) (w : World) : (Instr.field 29 (.agg #[.int .i64 a, .int .i64 c, .int .i64 z]) 1).run Tryz.prog w = .ok (.int .i64 c) w := by kernel_rfl
end Go.Proofs.YtgifeilmidpkeaaGreat.sc
