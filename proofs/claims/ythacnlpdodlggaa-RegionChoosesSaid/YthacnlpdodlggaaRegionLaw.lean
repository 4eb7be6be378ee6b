/- The laws' kept and next. -/
import Derived.Test.YthacnlpdodlggaaRegionOwn
import Derived.Test.YthacnlpdodlggaaGeomRef
import Derived.Test.YthacnlpdodlggaaHeld
namespace Go.Proofs.Ythacnlpdodlggaa.rg
set_option linter.unusedSimpArgs false
open Go.RowKit Go.Proofs.Ythacnlpdodlggaa.mem Go.Proofs.Ythacnlpdodlggaa.base Go.Proofs.Ythacnlpdodlggaa.row

/-- The device of three numbers. -/
def dvOf (x y z : Int) : Dv := ⟨1 + x % 64, (8 + y % 25).toNat, 24 + z % 41, ((106 + 5 * (8 + y % 25)) / 64).toNat, ((1 + x % 64 + 14) / 15).toNat⟩
theorem dvOf_ok (x y z : Int) : (dvOf x y z).ok := by
  unfold dvOf
  refine ⟨?_, ?_, ?_, ?_, ?_⟩ <;> dsimp only <;> omega

set_option maxHeartbeats 1000000 in
theorem config_dv (x y z : Int) (w : World) :
    Calls Try.prog 22 #[.agg #[.int .i64 x, .int .i64 y, .int .i64 z], .bool false] w fun e w' => e = .returned (.agg #[.int .i64 (dvOf x y z).b, .int .i64 ((dvOf x y z).n : Int), .int .i64 (dvOf x y z).z]) ∧ Kept [] w w' := by
  have hk := hide (((Kept.refl [] w).alloc (.cells #[.int .i64 x, .int .i64 y, .int .i64 z] 22)))
  obtain ⟨b, hb⟩ : ∃ b, x % 64 = b := ⟨_, rfl⟩
  obtain ⟨s, hs⟩ : ∃ s, y % 25 = s := ⟨_, rfl⟩
  obtain ⟨l, hl⟩ : ∃ l, z % 41 = l := ⟨_, rfl⟩
  have hb1 : 0 ≤ b ∧ b ≤ 63 := by omega
  have hs1 : 0 ≤ s ∧ s ≤ 24 := by omega
  have hl1 : 0 ≤ l ∧ l ≤ 40 := by omega
  have HE : Hid ((dvOf x y z).b = 1 + b ∧ ((dvOf x y z).n : Int) = 8 + s ∧ (dvOf x y z).z = 24 + l) := hide (by unfold dvOf; dsimp only; omega)
  have HB := hide hb
  have HS := hide hs
  have HL := hide hl
  clear hb hs hl
  rw [HE.out.1, HE.out.2.1, HE.out.2.2]
  have g1 : IntKind.i64.wrap (1 + b) = 1 + b := IntWalk.i64_in _ (by omega)
  have g2 : IntKind.i64.wrap (8 + s) = 8 + s := IntWalk.i64_in _ (by omega)
  have g3 : IntKind.i64.wrap (24 + l) = 24 + l := IntWalk.i64_in _ (by omega)
  go_enter Try.func22, Try.ntmps22
  go_wp2
  go_region_held3 (fun W => W.cell? ⟨w.heap.size, 0, none⟩ = some (.int .i64 x) ∧ W.cell? ⟨w.heap.size, 1, none⟩ = some (.int .i64 y) ∧ W.cell? ⟨w.heap.size, 2, none⟩ = some (.int .i64 z))
    (first | (simp; done) | (simp_all; done))
    (first | (go_at_call 57; first | (refine (base.round_any x 64 _ (by omega) (by omega)).mono ?_; rintro e w1 ⟨rfl, rfl⟩; rw [HB.out]) | (refine (base.round_any y 25 _ (by omega) (by omega)).mono ?_; rintro e w1 ⟨rfl, rfl⟩; rw [HS.out]) | (refine (base.round_any z 41 _ (by omega) (by omega)).mono ?_; rintro e w1 ⟨rfl, rfl⟩; rw [HL.out])))
  go_wp2
  refine bodyPost_ret (v := .agg #[.int .i64 (1 + b), .int .i64 (8 + s), .int .i64 (24 + l)]) (by simp [results, Try.results22, go_sem]) rfl ⟨rfl, ?_⟩
  exact (hk.out.alloc _).drew

set_option maxHeartbeats 1000000 in
theorem kept_any (x y z : Int) (w : World) :
    Calls Try.prog 8 #[.agg #[.int .i64 x, .int .i64 y, .int .i64 z]] w fun e w' => ∃ p, e = .returned (.tuple #[.agg #[.int .i64 (dvOf x y z).b, .int .i64 ((dvOf x y z).n : Int), .int .i64 (dvOf x y z).z], .pointer (some ⟨p, 0, none⟩), .bool true]) ∧ GD w' p (dvOf x y z) ∧ w.heap.size ≤ p ∧ Kept [] w w' := by
  have hD := dvOf_ok x y z
  obtain ⟨D, hd⟩ : ∃ D, dvOf x y z = D := ⟨_, rfl⟩
  have HDD := hide hd
  rw [hd] at hD ⊢
  clear hd
  obtain ⟨wa, hwa⟩ : ∃ wa, w.alloc (.cells #[.int .i64 x, .int .i64 y, .int .i64 z] 22) = wa := ⟨_, rfl⟩
  have hka : Kept [] w wa := by rw [← hwa]; exact (Kept.refl [] w).alloc _
  have hba : Blk wa w.heap.size 22 #[.int .i64 x, .int .i64 y, .int .i64 z] := by rw [← hwa]; exact Blk.new w _ _
  obtain ⟨q, hq⟩ : ∃ q, w.heap.size = q := ⟨_, rfl⟩
  rw [hq] at hba
  obtain ⟨g, hg⟩ : ∃ g, q + 1 = g := ⟨_, rfl⟩
  have hsa : wa.heap.size = g := by rw [← hwa]; simp; omega
  obtain ⟨w0, hw0⟩ : ∃ w0, wa.alloc (.cells #[.int .i64 0, .int .i64 0, .int .i64 0] 31) = w0 := ⟨_, rfl⟩
  have hk0 : Kept [] wa w0 := by rw [← hw0]; exact (Kept.refl [] wa).alloc _
  have hb0 : Blk w0 wa.heap.size 31 #[.int .i64 0, .int .i64 0, .int .i64 0] := by rw [← hw0]; exact Blk.new wa _ _
  rw [hsa] at hb0
  have HD := hide hD
  have HWG : Hid (w.heap.size ≤ g) := hide (by omega)
  have HB0 := hide hb0
  have HA0 := hide (hk0.blk hba (by simp))
  have HK0 := hide (hka.trans hk0 (by simp))
  have a0 : w0.cell? ⟨q, 0, none⟩ = some (.int .i64 x) := HA0.out.cell 0
  have a1 : w0.cell? ⟨q, 1, none⟩ = some (.int .i64 y) := HA0.out.cell 1
  have a2 : w0.cell? ⟨q, 2, none⟩ = some (.int .i64 z) := HA0.out.cell 2
  have hlg := hb0.lt
  clear hka hba hk0 hb0 hD
  go_enter Try.func8, Try.ntmps8
  go_wp2_with fail
  refine (config_dv x y z _).mono ?_
  rintro e w1 ⟨rfl, hk⟩
  rw [HDD.out]
  obtain ⟨w2, hw2⟩ : ∃ w2, w1.alloc (.cells #[.int .i64 D.b, .int .i64 (D.n : Int), .int .i64 D.z] 31) = w2 := ⟨_, rfl⟩
  have hk2 : Kept [] w1 w2 := by rw [← hw2]; exact (Kept.refl [] w1).alloc _
  have hb2 : Blk w2 w1.heap.size 31 #[.int .i64 D.b, .int .i64 (D.n : Int), .int .i64 D.z] := by rw [← hw2]; exact Blk.new w1 _ _
  obtain ⟨s, hs⟩ : ∃ s, w1.heap.size = s := ⟨_, rfl⟩
  rw [hs] at hb2
  have hsz := hk.size
  have hgs : g < s := by omega
  have HB2 := hide (hk2.blk (hk.blk HB0.out (by simp)) (by simp))
  have HS2 := hide hb2
  have HK2 := hide ((HK0.out.trans hk (by simp)).trans hk2 (by simp))
  obtain ⟨d0, d1, d2⟩ : w2.cell? ⟨s, 0, none⟩ = some (.int .i64 D.b) ∧ w2.cell? ⟨s, 1, none⟩ = some (.int .i64 (D.n : Int)) ∧ w2.cell? ⟨s, 2, none⟩ = some (.int .i64 D.z) := ⟨hb2.cell 0, hb2.cell 1, hb2.cell 2⟩
  clear hk hk2 hb2 a0 a1 a2 HB0 HK0 HA0 hwa hw0
  go_wp2_with fail
  refine (gnew D HD.out _).mono ?_
  rintro e w3 ⟨p, rfl, hgd, hp, hk⟩
  have HB3 := hide (hk.blk HB2.out (by simp))
  have HG3 := hide hgd
  have HK3 := hide (HK2.out.trans hk (by simp))
  have hbs := hk.blk HS2.out (by simp)
  have hp2 : w.heap.size ≤ p := by have := HK2.out.size; omega
  have hpg : p ≠ g := by have := HB2.out.lt; omega
  clear hk hgd d0 d1 d2 hw2
  have d0 : w3.cell? ⟨s, 0, none⟩ = some (.int .i64 D.b) := hbs.cell 0
  have d1 : w3.cell? ⟨s, 1, none⟩ = some (.int .i64 (D.n : Int)) := hbs.cell 1
  have d2 : w3.cell? ⟨s, 2, none⟩ = some (.int .i64 D.z) := hbs.cell 2
  have e0 : w3.cell? ⟨g, 0, none⟩ = some (.int .i64 0) := HB3.out.cell 0
  have e1 : w3.cell? ⟨g, 1, none⟩ = some (.int .i64 0) := HB3.out.cell 1
  have e2 : w3.cell? ⟨g, 2, none⟩ = some (.int .i64 0) := HB3.out.cell 2
  have f0 := HB3.out.frozen 0
  have f1 := HB3.out.frozen 1
  have f2 := HB3.out.frozen 2
  have hbw : Blk (((w3.setCell ⟨g, 0, none⟩ (.int .i64 D.b)).setCell ⟨g, 1, none⟩ (.int .i64 (D.n : Int))).setCell ⟨g, 2, none⟩ (.int .i64 D.z)) g 31 #[.int .i64 D.b, .int .i64 (D.n : Int), .int .i64 D.z] := ((HB3.out.set_ 0 _).set_ 1 _).set_ 2 _
  have hkg : Kept [g] w3 (((w3.setCell ⟨g, 0, none⟩ (.int .i64 D.b)).setCell ⟨g, 1, none⟩ (.int .i64 (D.n : Int))).setCell ⟨g, 2, none⟩ (.int .i64 D.z)) := (((Kept.refl [g] w3).set_ (b := g) (.inl (by simp)) 0 _).set_ (b := g) (.inl (by simp)) 1 _).set_ (b := g) (.inl (by simp)) 2 _
  have HBW := hide hbw
  have HKG := hide hkg
  clear hbw hkg hbs
  go_wp2
  generalize ((w3.setCell ⟨g, 0, none⟩ (.int .i64 D.b)).setCell ⟨g, 1, none⟩ (.int .i64 (D.n : Int))).setCell ⟨g, 2, none⟩ (.int .i64 D.z) = W at HBW HKG ⊢
  obtain ⟨t0, t1, t2⟩ : W.cell? ⟨g, 0, none⟩ = some (.int .i64 D.b) ∧ W.cell? ⟨g, 1, none⟩ = some (.int .i64 (D.n : Int)) ∧ W.cell? ⟨g, 2, none⟩ = some (.int .i64 D.z) := ⟨HBW.out.cell 0, HBW.out.cell 1, HBW.out.cell 2⟩
  refine bodyPost_ret (v := .tuple #[.agg #[.int .i64 D.b, .int .i64 (D.n : Int), .int .i64 D.z], .pointer (some ⟨p, 0, none⟩), .bool true]) ?_ rfl ⟨p, rfl, HG3.out.kept HKG.out (by simp; exact hpg), hp2, HK3.out.trans HKG.out (by simp; exact HWG.out)⟩
  simp [results, Try.results8, go_sem, t0, t1, t2]

/-- Numbers that are taken one by one: the row lies at rb, k are taken. -/
structure NX (w : World) (rb : Nat) (N : Option Addr) (l : List Int) (c k : Nat) : Prop where
  blk : Blk w rb 98 #[.slice N l.length c, .int .i64 (k : Int)]
  vals : Vals w [rb] N (l.map I)
theorem NX.kept {w w' : World} {rb : Nat} {N : Option Addr} {l : List Int} {c k : Nat} {S : List Nat} (h : NX w rb N l c k) (hv : Vals w' [rb] N (l.map I)) (K : Kept S w w') (hS : rb ∉ S) : NX w' rb N l c k := ⟨K.blk h.blk hS, hv⟩
theorem NX.keep {w w' : World} {rb : Nat} {N : Option Addr} {l : List Int} {c k : Nat} (h : NX w rb N l c k) (K : Kept [] w w') : NX w' rb N l c k := ⟨K.blk h.blk (by simp), h.vals.kept K (by simp)⟩

set_option maxRecDepth 100000 in
theorem next_any (rb : Nat) (N : Option Addr) (l : List Int) (c k : Nat) (n : Int) (w : World) (h : NX w rb N l c k) (hn : 1 ≤ n) (hn2 : n ≤ 4294967296) (hk : k ≤ 1000) :
    Calls Try.prog 56 #[.pointer (some ⟨rb, 0, none⟩), .int .i64 n] w fun e w' => ∃ y : Nat, e = .returned (.int .i64 (y : Int)) ∧ (y : Int) < n ∧ NX w' rb N l c (k + 1) ∧ Kept [rb] w w' := by
  have c0 := h.blk.cell 0
  have c1 := h.blk.cell 1
  have f1 := h.blk.frozen 1
  simp at c0 c1
  have hb1 : ∀ d : Nat, Blk ((w.drewN d).setCell ⟨rb, 1, none⟩ (.int .i64 ((k : Int) + 1))) rb 98 #[.slice N l.length c, .int .i64 ((k + 1 : Nat) : Int)] := fun d => by
    have := (h.blk.drewN d).set_ 1 (.int .i64 ((k : Int) + 1))
    simpa using this
  have hkk : ∀ d : Nat, Kept [rb] w ((w.drewN d).setCell ⟨rb, 1, none⟩ (.int .i64 ((k : Int) + 1))) := fun d => ((Kept.refl [rb] w).drewN d).set_ (b := rb) (.inl (by simp)) 1 _
  have HB := hide hb1
  have HKK := hide hkk
  have HV := hide h.vals
  clear hb1 hkk h
  by_cases hlt : k < l.length
  · obtain ⟨x, hx⟩ : ∃ x, l[k]? = some x := ⟨_, List.getElem?_eq_getElem hlt⟩
    obtain ⟨ad, rfl, _, hc⟩ := HV.out k (I x) (by rw [List.getElem?_map, hx]; rfl)
    unfold I at hc
    obtain ⟨m, hm⟩ : ∃ m, l.length = m := ⟨_, rfl⟩
    have HM := hide hm
    rw [hm] at c0 hlt HB
    have hd : decide ((k : Int) < (m : Int)) = true := decide_eq_true (by omega)
    have hlti : (k : Int) < (m : Int) := by omega
    clear hx hm
    go_enter Try.func56, Try.ntmps56
    go_wp2
    go_quiet (fail)
    go_wp2
    go_quiet (fail)
    go_wp2_with fail
    refine (base.round_ex x n _ (by omega) (by omega)).mono ?_
    rintro e w2 ⟨y, hy, rfl, rfl⟩
    go_wp2
    go_ret
    refine ⟨y, rfl, hy, ⟨?_, ?_⟩, ?_⟩
    · rw [HM.out]; exact HB.out _
    · exact HV.out.kept (HKK.out _) (by simp)
    · exact HKK.out _
  · obtain ⟨m, hm⟩ : ∃ m, l.length = m := ⟨_, rfl⟩
    have HM := hide hm
    rw [hm] at c0 hlt HB
    have hd : decide ((k : Int) < (m : Int)) = false := decide_eq_false (by omega)
    clear hm
    go_enter Try.func56, Try.ntmps56
    go_wp2
    go_quiet (fail)
    go_wp2_with fail
    refine (base.round_ex 0 n _ (by omega) (by omega)).mono ?_
    rintro e w2 ⟨y, hy, rfl, rfl⟩
    go_wp2
    go_ret
    refine ⟨y, rfl, hy, ⟨?_, ?_⟩, ?_⟩
    · rw [HM.out]; exact HB.out _
    · exact HV.out.kept (HKK.out _) (by simp)
    · exact HKK.out _
end Go.Proofs.Ythacnlpdodlggaa.rg
