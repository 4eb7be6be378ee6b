import Derived.Test.YtgifeilmidpkeaaGreatVChainFlipMath
import Derived.Test.YtgifeilmidpkeaaGreatVRecordAlike
set_option linter.unusedSimpArgs false
set_option linter.unusedVariables false
namespace Go.Proofs.YtgifeilmidpkeaaGreat.sc
open Go.RowKit mem base disk owns geom
open record (Rc RcIn RcAt put5 put5_kept cell5)
structure Fx (w3 W : World) (F G F1 G1 : List Nat) (d rd : Nat) (D : Dk) (o : Option Nat) : Prop where
 dd : Dd W F1 d G1 rd D
 kept : Kept (F ++ G) w3 W
 sub : ∀ i ∈ F1 ++ G1, i ∈ F ++ G ∨ w3.heap.size ≤ i
 bx : ∀ i, o = some i → Blk W i 24 #[.int .i64 0, .int .i64 0, .int .i64 0, .int .i64 0, .int .i64 0] ∧ i ∉ F1 ++ G1 ∧ w3.heap.size ≤ i
theorem Fx.a {w3 W : World} {F G F1 G1 : List Nat} {d rd : Nat} {D : Dk} (h : Fx w3 W F G F1 G1 d rd D none) : Fx w3 (W.alloc (.cells #[.int .i64 0, .int .i64 0, .int .i64 0, .int .i64 0, .int .i64 0] 24)) F G F1 G1 d rd D (some W.heap.size) :=
 ⟨h.dd.kept0 ((Kept.refl [] W).alloc _), h.kept.trans ((Kept.refl [] W).alloc _) (by simp), h.sub, fun i hi => by
  injection hi with hi
  subst hi
  exact ⟨Blk.new W _ _, fun hm => by have := h.dd.lt _ hm; omega, h.kept.size⟩⟩
theorem Fx.c {w3 W W' : World} {F G F1 G1 : List Nat} {d rd : Nat} {D E : Dk} {o : Option Nat} (h : Fx w3 W F G F1 G1 d rd D o) (t : DdTo W W' F1 d G1 rd E) : ∃ F2 G2, Fx w3 W' F G F2 G2 d rd E o := by
 obtain ⟨F2, G2, h1, h2, h3⟩ := t
 have hs := h.kept.size
 refine ⟨F2, G2, h1, h.kept.trans h3 (fun i hi => (h.sub i hi).imp id id), fun i hi => (h2 i hi).elim (fun g => h.sub i g) (fun g => .inr (by omega)), fun i hi => ?_⟩
 obtain ⟨g1, g2, g3⟩ := h.bx i hi
 exact ⟨h3.blk g1 g2, fun hm => (h2 i hm).elim g2 (fun h4 => by have := g1.lt; omega), g3⟩
theorem Fx.ex {w3 W : World} {F G F1 G1 : List Nat} {d rd : Nat} {D : Dk} {o : Option Nat} (h : Fx w3 W F G F1 G1 d rd D o) : ∃ wm, W = wm ∧ Fx w3 wm F G F1 G1 d rd D o := ⟨W, rfl, h⟩
theorem Fx.put {w3 W W' : World} {F G F1 G1 : List Nat} {d rd i : Nat} {D : Dk} {o : Option Nat} (h : Fx w3 W F G F1 G1 d rd D o) (k : Kept [i] W W') (hi : i ∉ F1 ++ G1 ∧ w3.heap.size ≤ i) : Fx w3 W' F G F1 G1 d rd D none :=
 ⟨h.dd.kept k (fun x hx hm => by simp at hm; subst hm; exact hi.1 (by simp [hx])) (fun x hx hm => by simp at hm; subst hm; exact hi.1 (by simp [hx])), h.kept.trans k (fun x hx => by simp at hx; subst hx; exact .inr hi.2), h.sub, by simp⟩
end Go.Proofs.YtgifeilmidpkeaaGreat.sc

namespace Go.Proofs.YtgifeilmidpkeaaGreat.sc
open Go.RowKit mem base disk owns geom
open record (Rc RcIn RcAt put5 put5_kept cell5)
theorem row64c {w : World} {base n c : Nat} {e : TypeId} {sz : Nat} {A : Option Addr} {xs : List Value} (h : w.ownsRow base e sz (.slice A (n + 1) c) (n + 1) xs) : ∃ g, A = some ⟨g, 0, none⟩ ∧ base ≤ g ∧ Row w g e xs := by
 rcases h.2 with ⟨h1, _⟩ | ⟨g, cap, cur, h1, hb, _⟩
 ·cases h1
 ·obtain ⟨g2, c2, h2, h3, _, h4⟩ := disk.row_of_own h (by cases h1; simp [Value.ownBlock])
  cases h2
  exact ⟨_, rfl, h3, h4⟩
def At10 (W : World) (a : Addr) (p : Ps) (R : Rc) (L : Option Addr) (m lc : Nat) (P : Option Addr) (k d : Nat) : Prop :=
 (W.cell? a = some (.int .i64 p.s) ∧ W.cell? ⟨a.block, a.off + 1, none⟩ = some (.int .i64 p.o) ∧ W.cell? ⟨a.block, a.off + 2, none⟩ = some (.int .i64 p.l) ∧ W.cell? ⟨a.block, a.off + 3, none⟩ = some (.int .i64 p.v) ∧ W.cell? ⟨a.block, a.off + 4, none⟩ = some (.int .i64 p.m)) ∧
 (W.cell? ⟨a.block, a.off + 5, none⟩ = some (.int .i64 R.m) ∧ W.cell? ⟨a.block, a.off + 5 + 1, none⟩ = some (.int .i64 R.l) ∧ W.cell? ⟨a.block, a.off + 5 + 2, none⟩ = some (.int .i64 R.p) ∧ W.cell? ⟨a.block, a.off + 5 + 3, none⟩ = some (.slice L m lc) ∧ W.cell? ⟨a.block, a.off + 5 + 4, none⟩ = some (.slice P k d))
theorem At10.kept {W W' : World} {a : Addr} {p : Ps} {R : Rc} {L : Option Addr} {m lc : Nat} {P : Option Addr} {k d : Nat} (h : At10 W a p R L m lc P k d) (K : Kept [] W W') : At10 W' a p R L m lc P k d :=
 ⟨⟨K.cell h.1.1 (by simp), K.cell h.1.2.1 (by simp), K.cell h.1.2.2.1 (by simp), K.cell h.1.2.2.2.1 (by simp), K.cell h.1.2.2.2.2 (by simp)⟩, K.cell h.2.1 (by simp), K.cell h.2.2.1 (by simp), K.cell h.2.2.2.1 (by simp), K.cell h.2.2.2.2.1 (by simp), K.cell h.2.2.2.2.2 (by simp)⟩
theorem fnc_rec {w : World} {S : List Nat} : ∀ {l : List (Ps × Rc)} {xs : List Value} {i : Nat} {y : Ps × Rc}, FncIn w S l xs → l[i]? = some y → ∃ L m c P k d, RcIn w S L m P k y.2 ∧ xs[10 * i + 8]? = some (.slice L m c) ∧ xs[10 * i + 9]? = some (.slice P k d)
 | [], _, _, _, _, h => by simp at h
 | (pk, R) :: l, _, 0, y, ⟨L, m, c, P, n, d, rest, h1, h2, h3⟩, h => by
  simp at h
  subst h h1
  exact ⟨L, m, c, P, n, d, h2, by simp, by simp⟩
 | (pk, R) :: l, _, i + 1, y, ⟨L, m, c, P, n, d, rest, h1, h2, h3⟩, h => by
  obtain ⟨L', m', c', P', k', d', a0, a1, a2⟩ := fnc_rec h3 (i := i) (y := y) (by simpa using h)
  subst h1
  have hten : ∀ (u0 u1 u2 u3 u4 u5 u6 u7 u8 u9 : Value) (l : List Value) (n : Nat), (u0 :: u1 :: u2 :: u3 :: u4 :: u5 :: u6 :: u7 :: u8 :: u9 :: l)[n + 10]? = l[n]? := fun _ _ _ _ _ _ _ _ _ _ _ _ => rfl
  refine ⟨L', m', c', P', k', d', a0, ?_, ?_⟩
  ·rw [show 10 * (i + 1) + 8 = 10 * i + 8 + 10 by omega, hten]; exact a1
  ·rw [show 10 * (i + 1) + 9 = 10 * i + 9 + 10 by omega, hten]; exact a2
theorem fnc_cells {w : World} {S : List Nat} {l : List (Ps × Rc)} {xs : List Value} {A : Option Addr} {i : Nat} {y : Ps × Rc} (hv : Vals w S A xs) (hf : FncIn w S l xs) (hy : l[i]? = some y) : ∃ ad L m c P k d, A = some ad ∧ RcIn w S L m P k y.2 ∧ At10 w (ad.add (i * 10)) y.1 y.2 L m c P k d := by
 obtain ⟨f0, f1, f2, f3, f4, f5, f6, f7⟩ := hf.at_ hy
 obtain ⟨L, m, c, P, k, d, f, f8, f9⟩ := fnc_rec hf hy
 obtain ⟨ad, rfl, _, g0⟩ := hv _ _ f0
 have hc : ∀ j v, 0 < j → xs[10 * i + j]? = some v → w.cell? ⟨(ad.add (i * 10)).block, (ad.add (i * 10)).off + j, none⟩ = some v := fun j v hj h => by
  obtain ⟨_, e, _, g⟩ := hv _ _ h
  cases e
  rw [item.add_field _ _ _ hj, show 10 * i = i * 10 by omega] at g
  exact g
 rw [show 10 * i = i * 10 by omega] at g0
 exact ⟨ad, L, m, c, P, k, d, rfl, f, ⟨g0, hc 1 _ (by omega) f1, hc 2 _ (by omega) f2, hc 3 _ (by omega) f3, hc 4 _ (by omega) f4⟩, hc 5 _ (by omega) f5, hc 6 _ (by omega) f6, hc 7 _ (by omega) f7, hc 8 _ (by omega) f8, hc 9 _ (by omega) f9⟩
theorem cwalk_far (F : List Nat) (D : Dk) (hD : D.ok) (c d gp : Nat) (fr e0 : Ps) (er0 : Int) (b s r q zl : Int) (l : List (Ps × Rc)) (E : Ps) (err most : Int) (w : World) (hl : Logs D s zl r q fr l E err) (hm : (l.length : Int) ≤ most) (hl7 : l.length ≤ 1000)
  (hs : CcAt w c d gp fr e0 er0) (hg : GAt w gp b s zl r q) (hv : VD w F d D) (hcg : c ≠ gp) (hcf : c ∉ F) :
  Calls Tryz.prog 41 #[.pointer (some ⟨c, 0, none⟩), .int .i64 most] w fun e W' => ∃ A cp xs, e = .returned (.slice A l.length cp) ∧ Vals W' (c :: F) A xs ∧ FncIn W' (c :: F) l xs ∧ CcAt W' c d gp fr E err ∧ Kept [c] w W' :=
 (callsIn_wide.1 (cwalk_in 3 (Nat.le_refl _) F D hD c d gp fr e0 er0 b s r q zl l E err most w hl hm hl7 hs hg hv hcg hcf)).mono fun _ _ ⟨v, xs, he, ho, hf, hsc, hk⟩ => by
  obtain ⟨A, cp, rfl, hc, hV⟩ := own_read ho
  exact ⟨A, cp, xs, he, hV _ (fun i hi => .inl (by
   rcases List.mem_cons.1 hi with rfl | hi
   ·exact hs.lt
   ·exact hv.lt _ hi)), hf, hsc, hk⟩
set_option maxRecDepth 100000 in
set_option maxHeartbeats 8000000 in
theorem cut_any (x0 x1 x2 x3 : Int) (w : World) : Calls Tryz.prog 5 #[.int .i64 x0, .int .i64 x1, .int .i64 x2, .int .i64 x3] w fun e w' => e = .returned (.bool true) ∧ Kept [] w w' := by
 obtain ⟨b1, hb1⟩ : ∃ b1, w.heap.size = b1 := ⟨_, rfl⟩
 obtain ⟨w1, hw1⟩ : ∃ w1, w.alloc (.cells #[.int .i64 3, .int .i64 8, .int .i64 24] 29) = w1 := ⟨_, rfl⟩
 have k1 : Kept [] w w1 := by rw [← hw1]; exact (Kept.refl [] w).alloc _
 have m1 : Blk w1 b1 29 #[.int .i64 3, .int .i64 8, .int .i64 24] := by rw [← hw1, ← hb1]; exact Blk.new w _ _
 have HK1 := hide k1
 have HM1 := hide m1
 have HSZ := hide (show w.heap.size ≤ b1 by omega)
 obtain ⟨c0, c1, c2⟩ : w1.cell? ⟨b1, 0, none⟩ = some (.int .i64 3) ∧ w1.cell? ⟨b1, 1, none⟩ = some (.int .i64 8) ∧ w1.cell? ⟨b1, 2, none⟩ = some (.int .i64 24) := ⟨m1.cell 0, m1.cell 1, m1.cell 2⟩
 clear k1 m1
 go_enter Tryz.func5, Tryz.ntmps5
 go_wp2_with fail
 refine (cdesk_any 3 8 24 _ (by unfold geom.Ok; omega)).mono ?_
 rintro e w2 ⟨F, d, G, rd, g, n, r, q, rfl, hdk⟩
 have HDK := hide hdk
 clear hdk
 obtain ⟨k, hk⟩ : ∃ k : Nat, 1 + x0 % 30 = (k : Int) := ⟨(1 + x0 % 30).toNat, by omega⟩
 obtain ⟨e, he⟩ : ∃ e : Nat, 6 + x1 % 8 = (e : Int) := ⟨(6 + x1 % 8).toNat, by omega⟩
 have hk40 : 1 ≤ k ∧ k ≤ 30 := by omega
 have he15 : 6 ≤ e ∧ e ≤ 13 := by omega
 have hwk : IntKind.i64.wrap (1 + x0 % 30) = (k : Int) := by rw [IntWalk.i64_in _ (by omega)]; exact hk
 have hwe : IntKind.i64.wrap (6 + x1 % 8) = (e : Int) := by rw [IntWalk.i64_in _ (by omega)]; exact he
 have HRA := hide (fun W => round_any x0 30 W (by omega) (by omega))
 have HRB := hide (fun W => round_any x1 8 W (by omega) (by omega))
 clear hk he
 obtain ⟨b6, hb6⟩ : ∃ b6, w2.heap.size = b6 := ⟨_, rfl⟩
 obtain ⟨w3, hw3⟩ : ∃ w3, w2.alloc (.cells #[.int .i64 1, .int .i64 0, .int .i64 1, .int .i64 0, .int .i64 1] 24) = w3 := ⟨_, rfl⟩
 have k3 : Kept [] w2 w3 := by rw [← hw3]; exact (Kept.refl [] w2).alloc _
 have m6 : Blk w3 b6 24 #[.int .i64 1, .int .i64 0, .int .i64 1, .int .i64 0, .int .i64 1] := by rw [← hw3, ← hb6]; exact Blk.new w2 _ _
 have hbd := HDK.out.geo.bounds
 have hok := HDK.out.geo.ok
 have hnn := HDK.out.hn
 have hrq : 0 ≤ r ∧ 0 ≤ q := by omega
 have hn4 : n ≤ 4096 := by omega
 obtain ⟨L, hrg, hLn, hEs⟩ := ring_told hrq n hnn hn4 ⟨1, 0, 1, 0, 1⟩ (by decide) rfl (by decide) (by decide) (by decide) k e (by omega) (by omega)
 have hacts := ring_acts r q n ⟨1, 0, 1, 0, 1⟩ e k (by omega)
 obtain ⟨E, hE⟩ : ∃ E, (laidP 8 24 r q (Dk.new n) ⟨1, 0, 1, 0, 1⟩ (ringL e 8 k 1)).2 = E := ⟨_, rfl⟩
 obtain ⟨D1, hD1⟩ : ∃ D1, (laidP 8 24 r q (Dk.new n) ⟨1, 0, 1, 0, 1⟩ (ringL e 8 k 1)).1 = D1 := ⟨_, rfl⟩
 dsimp only at hrg hEs hacts
 rw [hD1, hE] at hrg
 rw [hD1] at hacts
 have HACT := hide hacts
 have hT5 : (k - 1) / e ≤ 4 := Nat.le_of_lt_succ (Nat.div_lt_of_lt_mul (by omega))
 obtain ⟨m, hm⟩ : ∃ m, L.length = m := ⟨_, rfl⟩
 generalize (k - 1) / e = TT at hLn hEs hT5
 have hm40 : 1 ≤ m ∧ m ≤ 40 := by omega
 clear hLn hEs hT5 hacts
 have hres := Int.emod_nonneg x2 (show (m : Int) ≠ 0 by omega)
 have hres2 := Int.emod_lt_of_pos x2 (show (0 : Int) < (m : Int) by omega)
 obtain ⟨j, hj⟩ : ∃ j : Nat, x2 % (m : Int) = (j : Int) := ⟨(x2 % (m : Int)).toNat, by omega⟩
 have hjm : j < m := by omega
 obtain ⟨bt, hbt⟩ : ∃ bt : Nat, x3 % 512 = (bt : Int) := ⟨(x3 % 512).toNat, by omega⟩
 have hbt5 : bt < 512 := by omega
 obtain ⟨y, hy⟩ : ∃ y, L[j]? = some y := ⟨_, List.getElem?_eq_getElem (by omega)⟩
 obtain ⟨t, htn, htT, hTs, hTo, hlog⟩ := hrg.flip hrq (by omega) hy bt hbt5
 have HY := sealed hy
 have HTT := hide htT
 have HTN := hide htn
 have HLOG := hide hlog
 have HM := hide hm
 have HE := sealed hE
 have HD1E := sealed hD1
 have HRG := hide hrg
 have HRF := hide HDK.out.geo.rf
 have HG := hide (HDK.out.geo.kept k3)
 have HM6 := hide m6
 have HM1b := hide (k3.blk (HDK.out.kept.blk HM1.out (by simp)) (by simp))
 have HK3 := hide ((HK1.out.trans HDK.out.kept (by simp)).trans k3 (by simp))
 have HDD := hide (HDK.out.dd.kept0 k3)
 have HFG := hide (show ∀ x ∈ F ++ G, b1 < x ∧ x < b6 from fun x hx => by
  have h1 := HDK.out.new x hx
  have h2 := HDK.out.old
  have h3 := HM1.out.lt
  have h4 := HDK.out.dd.lt x hx
  omega)
 have HFB := hide (show w.heap.size ≤ b6 from by have h1 := HM1.out.lt; have h2 := HDK.out.kept.size; omega)
 have HGL := hide (show g < b6 from by have := HDK.out.geo.lt; omega)
 have HGF := hide (show g ∉ F ++ G from fun hm => by have := HDK.out.new g hm; omega)
 have HN1 := hide (show 1 ≤ n ∧ n ≤ 4096 by omega)
 have HNN := hide (show (2 + 2 * r + 4 * q + 8 * 24 : Int) = n by omega)
 have HW3 := hide (show b6 < w3.heap.size from HM6.out.lt)
 have HAP0 := hide (show ∀ y, (y = b1 ∨ y = b6 ∨ y = g) → y ∉ F ++ G from fun y hy hm => by
  have h3 := HFG.out y hm
  rcases hy with rfl | rfl | rfl
  ·omega
  ·omega
  ·exact HGF.out hm)
 have HR : Hid (Fx w3 w3.drew F G F G d rd (Dk.new n) none) := hide ⟨HDD.out.kept0 (Kept.refl [] w3).drew, (Kept.refl _ w3).drew, fun i hi => .inl hi, by simp⟩
 have HALL := hide (show ∀ W F1 G1 D o, Fx w3 W F G F1 G1 d rd D o → (fun W => (W.cell? ⟨b1, 0, none⟩ = some (.int .i64 3) ∧ W.cell? ⟨b1, 1, none⟩ = some (.int .i64 8) ∧ W.cell? ⟨b1, 2, none⟩ = some (.int .i64 24)) ∧ (W.cell? ⟨b6, 0, none⟩ = some (.int .i64 1) ∧ W.cell? ⟨b6, 1, none⟩ = some (.int .i64 0) ∧ W.cell? ⟨b6, 2, none⟩ = some (.int .i64 1) ∧ W.cell? ⟨b6, 3, none⟩ = some (.int .i64 0) ∧ W.cell? ⟨b6, 4, none⟩ = some (.int .i64 1))) W from fun W F1 G1 D o h => by
  have h1 := h.kept.blk HM1b.out (HAP0.out _ (.inl rfl))
  have h2 := h.kept.blk HM6.out (HAP0.out _ (.inr (.inl rfl)))
  exact ⟨⟨h1.cell 0, h1.cell 1, h1.cell 2⟩, cell5 h2⟩)
 clear hD1 hE k3 m6 hbd hok hnn hn4 hrg HM1 HK1 HDK hw1 c0 c1 c2 htT htn hlog hm hy
 go_wp2
 refine wp_region_noPanic ?_
 refine wp_region_held_drew (S := fun W => (W.cell? ⟨b1, 0, none⟩ = some (.int .i64 3) ∧ W.cell? ⟨b1, 1, none⟩ = some (.int .i64 8) ∧ W.cell? ⟨b1, 2, none⟩ = some (.int .i64 24)) ∧ (W.cell? ⟨b6, 0, none⟩ = some (.int .i64 1) ∧ W.cell? ⟨b6, 1, none⟩ = some (.int .i64 0) ∧ W.cell? ⟨b6, 2, none⟩ = some (.int .i64 1) ∧ W.cell? ⟨b6, 3, none⟩ = some (.int .i64 0) ∧ W.cell? ⟨b6, 4, none⟩ = some (.int .i64 1))) (by kernel_rfl) (by exact HALL.out _ _ _ _ _ HR.out) (fun hHeld => ?_)
 refine tK 0 36 rfl ?_
 try simp only [Act.put, pA, pB, pC]
 refine tK 1 37 rfl ?_
 try simp only [Act.put, pA, pB, pC]
 refine tK 2 38 rfl ?_
 try simp only [Act.put, pA, pB, pC]
 refine tK 3 39 rfl ?_
 try simp only [Act.put, pA, pB, pC]
 refine tK 4 40 rfl ?_
 try simp only [Act.put, pA, pB, pC]
 refine tK 7 43 rfl ?_
 try simp only [Act.put, pA, pB, pC]
 refine hO 5 (some 41) rfl fun K hK => ?_
 (try generalize w3.drew = wd at HR hHeld ⊢)
 go_simp
 refine (HRA.out _).mono ?_
 rintro e1 w2' ⟨rfl, rfl⟩
 refine hK.out _ _ (by exact HALL.out _ _ _ _ _ HR.out) (fun hHeld => ?_)
 clear hK K
 try simp only [Act.put, pA, pB, pC]
 refine tK 6 42 rfl ?_
 try simp only [Act.put, pA, pB, pC]
 refine hO 8 (some 44) rfl fun K hK => ?_
 go_simp
 refine (HRB.out _).mono ?_
 rintro e1 w2' ⟨rfl, rfl⟩
 refine hK.out _ _ (by exact HALL.out _ _ _ _ _ HR.out) (fun hHeld => ?_)
 clear hK K
 try simp only [Act.put, pA, pB, pC]
 refine tK 9 45 rfl ?_
 try simp only [Act.put, pA, pB, pC]
 refine hO 10 (some 46) rfl fun K hK => ?_
 go_simp
 refine (ring_any F G d rd (Dk.new n) ⟨1, 0, 1, 0, 1⟩ 3 8 24 r q k e _ HR.out.dd (Reads.new n HN1.out.1 HN1.out.2) HRF.out (by decide) (by rw [show ((Dk.new n).n : Int) = n by unfold Dk.n Dk.new; simp]; have := HNN.out; omega) (by simp [Dk.new]) (by decide) (by decide) (by decide) (by omega) (by omega) (by omega)).mono ?_
 rw [show ((8 : Int).toNat) = 8 from rfl]
 rw [HE.out, HD1E.out]
 rintro e1 wc ⟨rfl, hdd⟩
 obtain ⟨F1, G1, hg6⟩ := HR.out.c hdd
 have HFX := hide hg6
 clear hdd hg6
 unfold Ps.val
 refine hK.out _ _ (by exact HALL.out _ _ _ _ _ HFX.out) (fun hHeld => ?_)
 clear hK K
 try simp only [Act.put, pA, pB, pC]
 refine tK 11 35 rfl ?_
 try simp only [Act.put, pA, pB, pC]
 refine tK 12 47 rfl ?_
 try simp only [Act.put, pA, pB, pC]
 refine tK 13 48 rfl ?_
 try simp only [Act.put, pA, pB, pC]
 refine tK 14 13 rfl ?_
 try simp only [Act.put, pA, pB, pC]
 refine wpAnyH_done (by kernel_rfl) ?_ _
 refine NoPanic.normal ?_
 clear HR HALL HRA HRB
 have HM6c := hide (HFX.out.kept.blk HM6.out (HAP0.out _ (.inr (.inl rfl))))
 have HGc := hide (HG.out.kept HFX.out.kept (HAP0.out _ (.inr (.inr rfl))))
 have HKc := hide (HK3.out.trans HFX.out.kept (fun i hi => .inr (by have := HFG.out i hi; have := HSZ.out; omega)))
 have HF1 := hide (show ∀ i ∈ F1 ++ G1, i < wc.heap.size ∧ i ≠ g ∧ w.heap.size ≤ i from fun i hi => by
  refine ⟨HFX.out.dd.lt i hi, fun he => ?_, ?_⟩
  ·subst he
   rcases HFX.out.sub i hi with h | h
   ·exact HGF.out h
   ·have h1 := HGL.out; have h2 := HW3.out; omega
  ·rcases HFX.out.sub i hi with h | h
   ·have := HFG.out i h; have := HSZ.out; omega
   ·have h1 := HK3.out.size; omega)
 have HGB := hide (show g < b6 ∧ b6 < wc.heap.size from ⟨HGL.out, by have h1 := HM6c.out.lt; omega⟩)
 have HDc := hide HFX.out.dd
 clear HFX HM1b HM6 HG HK3 HDD hw3 HW3
 obtain ⟨p0, p1', p2', p3', p4'⟩ := cell5 HM6c.out
 go_wp2_with fail
 refine (cnew_any d g ⟨1, 0, 1, 0, 1⟩ _).mono ?_
 rintro e1 w6 ⟨c, rfl, hc, hcc, hk6⟩
 have HCC := hide hcc
 have HC := hide (show wc.heap.size ≤ c ∧ c ≠ g ∧ c ∉ F1 ++ G1 from by
  exact ⟨hc, by have := HGB.out; omega, fun hm => by have := HF1.out c hm; omega⟩)
 have HGd := hide (HGc.out.kept hk6)
 have HKd := hide (HKc.out.trans hk6 (by simp))
 have HDd := hide (HDc.out.kept0 hk6)
 clear hc hcc hk6 p0 p1' p2' p3' p4' HM6c HGc HKc HDc
 go_wp2_with fail
 refine (cwalk_far F1 D1 HRG.out.reads.ok c d g _ _ _ 3 8 r q 24 L E 0 99 _ HRG.out.logs (by have := HM.out; omega) (by have := HM.out; omega) HCC.out HGd.out HDd.out.a HC.out.2.1 (fun hm => HC.out.2.2 (by simp [hm]))).mono ?_
 rw [HM.out]
 rintro e1 wA ⟨A, cp, xs, rfl, hvs, hfn, hcc, hkA⟩
 have HVS := hide hvs
 have HFN := hide hfn
 have HCCg := hide hcc
 have HKg := hide (HKd.out.trans hkA (fun i hi => by simp at hi; subst hi; exact .inr (by have h1 := HC.out.1; have h2 := HGB.out; have h3 := HFB.out; omega)))
 have HGg := hide (HGd.out.kept hkA (by have := HC.out.2.1; simp; omega))
 have HDg := hide (HDd.out.a.kept hkA (fun x hx hm => by simp at hm; subst hm; exact HC.out.2.2 (by simp [hx])))
 have HSA := hide (show wc.heap.size ≤ wA.heap.size ∧ c < wA.heap.size from ⟨by have h1 := hkA.size; have h2 := HCC.out.lt; have h3 := HC.out.1; omega, HCCg.out.lt⟩)
 clear hvs hfn hcc hkA HCC HKd HGd HDd
 have hl1 : decide ((m : Int) < 1) = false := decide_eq_false (by omega)
 have HRC := hide (fun W => round_any x2 (m : Int) W (by omega) (by omega))
 rw [hj] at HRC
 have HRD := hide (fun W => round_any x3 512 W (by omega) (by omega))
 rw [hbt] at HRD
 go_wp2_with fail
 refine (HRC.out _).mono ?_
 rintro e1 w2' ⟨rfl, rfl⟩
 have hwt : IntKind.i64.wrap (2 + 2 * r + 4 * q + y.1.s * 24 + y.1.o) = (t : Int) := by rw [HTT.out]; exact IntWalk.i64_in _ (by have := HTN.out; have := HRG.out.size; have := HN1.out; omega)
 have HSEG := hide (show segAt 8 24 r q y.1.s = 2 + 2 * r + 4 * q + y.1.s * 24 from by unfold segAt; rw [if_pos (by omega)])
 obtain ⟨ad, L0, m0, lc0, P0, k0, d0, rfl, _, ht0⟩ := fnc_cells HVS.out HFN.out HY.out
 have HT0 := hide ht0
 clear ht0
 have HALL3 := hide (show ∀ W, Kept [] wA W → (fun W => Kept [] wA W ∧ (W.cell? (ad.add (j * 10)) = some (.int .i64 y.1.s) ∧ W.cell? ⟨(ad.add (j * 10)).block, (ad.add (j * 10)).off + 1, none⟩ = some (.int .i64 y.1.o) ∧ W.cell? ⟨(ad.add (j * 10)).block, (ad.add (j * 10)).off + 2, none⟩ = some (.int .i64 y.1.l) ∧ W.cell? ⟨(ad.add (j * 10)).block, (ad.add (j * 10)).off + 3, none⟩ = some (.int .i64 y.1.v) ∧ W.cell? ⟨(ad.add (j * 10)).block, (ad.add (j * 10)).off + 4, none⟩ = some (.int .i64 y.1.m))) W from fun W k => ⟨k, (HT0.out.kept k).1⟩)
 have hjlt : ¬ ((m : Int) ≤ (j : Int)) := by omega
 go_wp2
 refine wp_region_noPanic ?_
 refine wp_region_held_drew (S := fun W => Kept [] wA W ∧ (W.cell? (ad.add (j * 10)) = some (.int .i64 y.1.s) ∧ W.cell? ⟨(ad.add (j * 10)).block, (ad.add (j * 10)).off + 1, none⟩ = some (.int .i64 y.1.o) ∧ W.cell? ⟨(ad.add (j * 10)).block, (ad.add (j * 10)).off + 2, none⟩ = some (.int .i64 y.1.l) ∧ W.cell? ⟨(ad.add (j * 10)).block, (ad.add (j * 10)).off + 3, none⟩ = some (.int .i64 y.1.v) ∧ W.cell? ⟨(ad.add (j * 10)).block, (ad.add (j * 10)).off + 4, none⟩ = some (.int .i64 y.1.m))) (by kernel_rfl) (by exact HALL3.out _ ((Kept.refl [] wA).drew)) (fun hHeld => ?_)
 refine tK 0 68 rfl ?_
 try simp only [Act.put, pA, pB, pC]
 refine tK 1 69 rfl ?_
 try simp only [Act.put, pA, pB, pC]
 refine tK 2 70 rfl ?_
 try simp only [Act.put, pA, pB, pC]
 refine tK 3 71 rfl ?_
 try simp only [Act.put, pA, pB, pC]
 refine tK 4 72 rfl ?_
 try simp only [Act.put, pA, pB, pC]
 refine tK 5 73 rfl ?_
 try simp only [Act.put, pA, pB, pC]
 refine tK 6 74 rfl ?_
 try simp only [Act.put, pA, pB, pC]
 refine tK 8 76 rfl ?_
 try simp only [Act.put, pA, pB, pC]
 refine tK 9 77 rfl ?_
 try simp only [Act.put, pA, pB, pC]
 refine tK 10 78 rfl ?_
 try simp only [Act.put, pA, pB, pC]
 refine tK 11 79 rfl ?_
 try simp only [Act.put, pA, pB, pC]
 refine tK 12 80 rfl ?_
 try simp only [Act.put, pA, pB, pC]
 refine tK 13 81 rfl ?_
 try simp only [Act.put, pA, pB, pC]
 refine hO 7 (some 75) rfl fun K hK => ?_
 go_simp
 refine (seg_any g 3 8 24 r q y.1.s _ (HGg.out.kept hHeld.1)).mono ?_
 rintro e1 wB ⟨rfl, hkB⟩
 have HB := hide (hHeld.1.trans hkB (by simp))
 rw [HSEG.out]
 refine hK.out _ _ (by exact HALL3.out _ HB.out) (fun hHeld => ?_)
 clear hK K
 try simp only [Act.put, pA, pB, pC]
 refine tK 14 82 rfl ?_
 try simp only [Act.put, pA, pB, pC]
 refine tK 15 18 rfl ?_
 try simp only [Act.put, pA, pB, pC]
 refine wpAnyH_done (by kernel_rfl) ?_ _
 refine NoPanic.normal ?_
 have HDB := hide (HDg.out.kept HB.out (by simp))
 have HRDD := sealed (HRG.out.reads.read t HTN.out)
 have HSNL := hide (HRG.out.reads.sec t HTN.out)
 go_wp2_with fail
 refine (read_own d F1 D1 (t : Int) _ HDB.out).mono ?_
 rintro e w14 ⟨⟨Ab, cb, rfl, _, hownb⟩, hk14⟩
 rw [HRDD.out] at hownb ⊢
 dsimp only at hownb ⊢
 rw [HSNL.out] at hownb ⊢
 obtain ⟨b0, hb0⟩ : ∃ b0, disk.sec D1.now t = b0 := ⟨_, rfl⟩
 rw [hb0] at hownb HLOG
 have hb0l : b0.length = 64 := by rw [← hb0]; exact HSNL.out
 clear hb0
 obtain ⟨gb, hgb, hgl, hrow⟩ := row64c hownb
 obtain rfl : Ab = _ := hgb
 have HROW := hide hrow
 have HGLB := hide (show wA.heap.size ≤ gb from Nat.le_trans HB.out.size hgl)
 have HK14 := hide (HB.out.trans hk14 (by simp))
 have HV14 := hide ((HVS.out.away (S' := gb :: c :: F1) (fun i hi => (List.mem_cons.1 hi).elim (fun h => .inr (by rw [h]; exact HGLB.out)) .inl)).kept HK14.out (by simp))
 have HF14 := hide ((HFN.out.away (S' := gb :: c :: F1) (fun i hi => (List.mem_cons.1 hi).elim (fun h => .inr (by rw [h]; exact HGLB.out)) .inl)).kept HK14.out (by simp))
 have HD14 := hide (HDg.out.kept HK14.out (by simp))
 have HC14 := hide (HCCg.out.kept HK14.out (by simp))
 have HG14 := hide (HGg.out.kept HK14.out)
 clear hownb hrow hgl hk14 HVS HFN HDg HCCg HGg HDB HT0 HALL3
 have he64 : ((64 : Int) != 64) = false := by decide
 go_wp2_with fail
 refine (HRD.out _).mono ?_
 rintro e1 w2' ⟨rfl, rfl⟩
 obtain ⟨b8, hb8⟩ : ∃ b8, bt / 8 = b8 := ⟨_, rfl⟩
 obtain ⟨br, hbr⟩ : ∃ br, bt % 8 = br := ⟨_, rfl⟩
 have g0 : (bt : Int).tdiv 8 = (b8 : Int) := by rw [Int.tdiv_eq_ediv_of_nonneg (by omega)]; omega
 have g1 : IntKind.i64.wrap (b8 : Int) = (b8 : Int) := IntWalk.i64_in _ (by omega)
 have g3 : (bt : Int).tmod 8 = (br : Int) := by rw [IntWalk.rem_in _ _ (by omega)]; omega
 have hbr8 : br < 8 := by omega
 have hbi64 : b8 < 64 := by omega
 have hbi64' : (b8 : Int) < 64 := by omega
 have hbi0 : ¬ (b8 : Int) < 0 := by omega
 have hbi64n : ¬ (64 : Int) ≤ (b8 : Int) := by omega
 have hbin : ((b8 : Int)).toNat = b8 := Int.toNat_natCast b8
 have g4 : IntKind.u8.wrap (2 ^ br) = (2 ^ br : Int) := by
  have : br = 0 ∨ br = 1 ∨ br = 2 ∨ br = 3 ∨ br = 4 ∨ br = 5 ∨ br = 6 ∨ br = 7 := by omega
  rcases this with rfl | rfl | rfl | rfl | rfl | rfl | rfl | rfl <;> decide
 have g6 : IntKind.i64.wrap (br : Int) = (br : Int) := IntWalk.i64_in _ (by omega)
 have hyb : b0[b8]? = some (b0.getD b8 0) := by rw [List.getD_eq_getElem?_getD, List.getElem?_eq_getElem (by omega)]; rfl
 have hcb : w14.cell? ⟨gb, b8, none⟩ = some (B (b0.getD b8 0)) := HROW.out.cell (by rw [List.getElem?_map, hyb]; rfl)
 obtain ⟨yb, hyy⟩ : ∃ yb, b0.getD b8 0 = yb := ⟨_, rfl⟩
 rw [hyy] at hcb
 unfold B at hcb
 have hfz := HROW.out.frozen b8
 obtain ⟨xb, hxb, hbx⟩ := crc.turn_byte yb br hbr8
 have HLOG2 := sealed (HLOG.out (b0.set b8 xb) (by rw [hb8, hbr, hyy, ← hxb, UInt8.ofNat_toNat]))
 have HB0L := hide hb0l
 clear hxb hyy hb8 hbr hb0l hyb HLOG
 go_wp2
 go_still_tail 13, (by kernel_rfl)
 change wpList _ _ _ _ _ (World.drew w14)
 go_wp2_with fail
 have hrS : Row (w14.setCell ⟨gb, b8, none⟩ (.int .u8 (xb.toNat : Int))).drew gb 5 ((b0.set b8 xb).map B) := by rw [List.map_set]; exact (HROW.out.set_ b8 (B xb)).drew
 have hkS : Kept [gb] w14 (w14.setCell ⟨gb, b8, none⟩ (.int .u8 (xb.toNat : Int))).drew := ((Kept.refl [gb] w14).set_ (b := gb) (.inl (by simp)) b8 (.int .u8 (xb.toNat : Int))).drew
 generalize (w14.setCell ⟨gb, b8, none⟩ (.int .u8 (xb.toNat : Int))).drew = wS at hrS hkS ⊢
 have HRS := hide hrS
 have HKS := hide hkS
 have HSF := hide (show ∀ x ∈ F1 ++ G1, x < wc.heap.size from fun x hx => (HF1.out x hx).1)
 have HGN := hide (show gb ∉ F1 ∧ gb ≠ c ∧ gb ≠ g from ⟨fun hm => by have h1 := HSF.out gb (by simp [hm]); have h2 := HGLB.out; have h3 := HSA.out; omega, by have h2 := HGLB.out; have h3 := HSA.out; omega, by have h1 := HGB.out; have h2 := HGLB.out; have h3 := HSA.out; omega⟩)
 have HDS := hide (HD14.out.kept hkS (fun x hx hm => by simp at hm; subst hm; exact HGN.out.1 hx))
 have HCS := hide (HC14.out.kept hkS (by have := HGN.out.2.1; simp; omega))
 have HGS := hide (HG14.out.kept hkS (by have := HGN.out.2.2; simp; omega))
 have HVS2 := hide (HV14.out.kept hkS (by simp))
 have HFS2 := hide (HF14.out.kept hkS (by simp))
 clear hrS hkS hcb hfz hbx HD14 HC14 HG14 HV14 HF14
 refine (write_at d F1 D1 (t : Int) (some ⟨gb, 0, none⟩) 64 cb (b0.set b8 xb) _ HDS.out (by have := HACT.out; omega) (HRS.out.vals0 HGN.out.1) (by rw [List.length_set]; exact HB0L.out)).mono ?_
 rintro e w16 ⟨rfl, ht⟩
 rw [HLOG2.out.1]
 obtain ⟨D2, hD2⟩ : ∃ D2, (D1.write (t : Int) (b0.set b8 xb)).2 = D2 := ⟨_, rfl⟩
 obtain ⟨_, e2, e3⟩ := HLOG2.out
 rw [hD2] at ht e2 e3
 obtain ⟨F2, hv2, hF2, hk2⟩ := ht
 have HV2 := hide hv2
 have HF2 := hide hF2
 have HK2 := hide hk2
 have HL2 := sealed e3
 have HE2 := hide e2
 have HSB := hide (show wc.heap.size ≤ wS.heap.size ∧ c < wS.heap.size from ⟨by have h1 := HK14.out.size; have h2 := HKS.out.size; have h3 := HSA.out; omega, by have h1 := HK14.out.size; have h2 := HKS.out.size; have h3 := HSA.out; omega⟩)
 have HC16 := hide (HCS.out.kept hk2 (fun hm => HC.out.2.2 (by simp [hm])))
 have HG16 := hide (HGS.out.kept hk2 (fun hm => (HF1.out g (by simp [hm])).2.1 rfl))
 have HV16 := hide (HVS2.out.kept hk2 (by intro i hi; simp [hi]))
 have HF16 := hide (HFS2.out.kept hk2 (by intro i hi; simp [hi]))
 have HCF2 := hide (show c ∉ F2 from fun hm => (HF2.out c hm).elim (fun h => HC.out.2.2 (by simp [h])) (fun h => by have := HSB.out; omega))
 clear e2 e3 hv2 hF2 hk2 hD2 HDS HCS HGS HVS2 HFS2
 go_wp2_with fail
 refine (cwalk_any F2 D2 HE2.out.ok c d g _ _ _ 3 8 r q 24 (L.take j) y.1 0 99 _ HL2.out (by rw [List.length_take]; omega) (by rw [List.length_take]; omega) HC16.out HG16.out HV2.out HC.out.2.1 HCF2.out).mono ?_
 rw [show (L.take j).length = j by rw [List.length_take]; have := HM.out; omega]
 rintro e1 w17 ⟨A2, cp2, xs2, rfl, _, hvs2, hfn2, hcc2, hkG⟩
 have HV17 := hide ((HV16.out.kept hkG (by intro i hi; simp at hi; simp [hi])).mono (S' := []) (by simp))
 have HF17 := hide ((HF16.out.kept hkG (by intro i hi; simp at hi; simp [hi])).away (S' := []) (by simp))
 have HVY := hide hvs2
 have HFY := hide (hfn2.away (S' := []) (by simp))
 have HC17 := hide hcc2
 have hc0 : w.heap.size ≤ c := by have h1 := HC.out.1; have h2 := HGB.out; have h3 := HFB.out; omega
 have hgb0 : w.heap.size ≤ gb := by have h1 := HGLB.out; have h2 := HSA.out; have h3 := HGB.out; have h4 := HFB.out; omega
 have HK17 := hide ((((HKg.out.trans HK14.out (by simp)).trans HKS.out (fun i hi => by simp at hi; subst hi; exact .inr hgb0)).trans HK2.out (fun i hi => .inr (HF1.out i (by simp [hi])).2.2)).trans hkG (fun i hi => by simp at hi; subst hi; exact .inr hc0))
 clear hvs2 hfn2 hcc2 hkG HV16 HF16 HC16 HG16 HV2
 obtain ⟨ad', L0', m0', lc0', P0', k0', d0', he', _, ht0⟩ := fnc_cells HV17.out HF17.out HY.out
 cases he'
 have HT0 := hide ht0
 clear ht0
 have HALL4 := hide (show ∀ W, Kept [] w17 W → (fun W => Kept [] w17 W ∧ (W.cell? (ad.add (j * 10)) = some (.int .i64 y.1.s) ∧ W.cell? ⟨(ad.add (j * 10)).block, (ad.add (j * 10)).off + 1, none⟩ = some (.int .i64 y.1.o) ∧ W.cell? ⟨(ad.add (j * 10)).block, (ad.add (j * 10)).off + 2, none⟩ = some (.int .i64 y.1.l) ∧ W.cell? ⟨(ad.add (j * 10)).block, (ad.add (j * 10)).off + 3, none⟩ = some (.int .i64 y.1.v) ∧ W.cell? ⟨(ad.add (j * 10)).block, (ad.add (j * 10)).off + 4, none⟩ = some (.int .i64 y.1.m))) W from fun W k => ⟨k, (HT0.out.kept k).1⟩)
 have hjj : ((j : Int) != (j : Int)) = false := by simp
 have hne2 : ∀ W : World, (binOp .neq 24 (.agg #[.int .i64 y.1.s, .int .i64 y.1.o, .int .i64 y.1.l, .int .i64 y.1.v, .int .i64 y.1.m]) (.agg #[.int .i64 y.1.s, .int .i64 y.1.o, .int .i64 y.1.l, .int .i64 y.1.v, .int .i64 y.1.m])).run Tryz.prog W = .ok (.bool false) W := fun W => by
  have := neq_pos y.1 y.1 W
  simpa using this
 go_wp2
 refine wp_region_noPanic ?_
 refine wp_region_held_drew (S := fun W => Kept [] w17 W ∧ (W.cell? (ad.add (j * 10)) = some (.int .i64 y.1.s) ∧ W.cell? ⟨(ad.add (j * 10)).block, (ad.add (j * 10)).off + 1, none⟩ = some (.int .i64 y.1.o) ∧ W.cell? ⟨(ad.add (j * 10)).block, (ad.add (j * 10)).off + 2, none⟩ = some (.int .i64 y.1.l) ∧ W.cell? ⟨(ad.add (j * 10)).block, (ad.add (j * 10)).off + 3, none⟩ = some (.int .i64 y.1.v) ∧ W.cell? ⟨(ad.add (j * 10)).block, (ad.add (j * 10)).off + 4, none⟩ = some (.int .i64 y.1.m))) (by kernel_rfl) (by exact HALL4.out _ ((Kept.refl [] w17).drew)) (fun hHeld => ?_)
 refine tK 0 118 rfl ?_
 try simp only [Act.put, pA, pB, pC]
 refine tK 1 119 rfl ?_
 try simp only [Act.put, pA, pB, pC]
 refine tK 2 120 rfl ?_
 try simp only [Act.put, pA, pB, pC]
 refine tK 3 121 rfl ?_
 try simp only [Act.put, pA, pB, pC]
 refine tK 4 122 rfl ?_
 try simp only [Act.put, pA, pB, pC]
 refine tK 5 123 rfl ?_
 try simp only [Act.put, pA, pB, pC]
 refine tK 7 125 rfl ?_
 try simp only [Act.put, pA, pB, pC]
 refine tK 8 126 rfl ?_
 try simp only [Act.put, pA, pB, pC]
 refine tK 9 127 rfl ?_
 try simp only [Act.put, pA, pB, pC]
 refine tK 10 128 rfl ?_
 try simp only [Act.put, pA, pB, pC]
 refine tK 11 129 rfl ?_
 try simp only [Act.put, pA, pB, pC]
 refine hO 6 (some 124) rfl fun K hK => ?_
 go_simp
 refine (cend_any c d g _ _ _ _ (HC17.out.kept hHeld.1 (by simp))).mono ?_
 rintro e1 wB2 ⟨rfl, hkB⟩
 have HB2 := hide (hHeld.1.trans hkB (by simp))
 unfold Ps.val
 refine hK.out _ _ (by exact HALL4.out _ HB2.out) (fun hHeld => ?_)
 clear hK K
 try simp only [Act.put, pA, pB, pC]
 refine tK 12 130 rfl ?_
 try simp only [Act.put, pA, pB, pC]
 refine tK 13 131 rfl ?_
 try simp only [Act.put, pA, pB, pC]
 refine wpAnyH_done (by kernel_rfl) ?_ _
 refine NoPanic.normal ?_
 go_wp2
 go_loopw [23] (fun i wr => ∃ z : Nat, z ≤ j ∧ i = .int .i64 (z : Int) ∧ Hid (Kept [] w17 wr)) (fun i wr => j - (intOf i).toNat)
 case atStart => exact ⟨0, Nat.zero_le _, rfl, HB2⟩
 case round =>
  obtain ⟨z, hz, rfl, HKr⟩ := hrel
  by_cases hlt : z < j
  ·obtain ⟨u, hu⟩ : ∃ u, L[z]? = some u := ⟨_, List.getElem?_eq_getElem (by have := HM.out; omega)⟩
   obtain ⟨ad1, L1, m1, lc1, P1, k1, d1, he1, hr1, ht1⟩ := fnc_cells HV17.out HF17.out hu
   cases he1
   obtain ⟨ad2, L2, m2, lc2, P2, k2, d2, rfl, hr2, ht2⟩ := fnc_cells HVY.out HFY.out (i := z) (y := u) (by rw [List.getElem?_take_of_lt hlt]; exact hu)
   have HT1 := hide ht1
   have HT2 := hide ht2
   have HR1 := hide hr1
   have HR2 := hide hr2
   have HSM := hide (show u.2.its.length ≤ 6 ∧ u.2.bks.length ≤ 6 from ⟨((HRG.out.logs.nums HRG.out.reads.ok).2 z u hu).2.2.2.2.2.2.1.2, by have := HRG.out.one u (List.mem_of_getElem? hu); unfold lenOf at this; omega⟩)
   clear ht1 ht2 hr1 hr2 hu
   have hwz : IntKind.i64.wrap ((z : Int) + 1) = (z : Int) + 1 := IntWalk.i64_in _ (by omega)
   have hdl : decide ((z : Int) < (j : Int)) = true := decide_eq_true (by omega)
   have hz1 : ¬ ((m : Int) ≤ (z : Int)) := by omega
   have hz2 : ¬ ((j : Int) ≤ (z : Int)) := by omega
   have hneu : ∀ W : World, (binOp .neq 24 (.agg #[.int .i64 u.1.s, .int .i64 u.1.o, .int .i64 u.1.l, .int .i64 u.1.v, .int .i64 u.1.m]) (.agg #[.int .i64 u.1.s, .int .i64 u.1.o, .int .i64 u.1.l, .int .i64 u.1.v, .int .i64 u.1.m])).run Tryz.prog W = .ok (.bool false) W := fun W => by
    have := neq_pos u.1 u.1 W
    simpa using this
   have HALL5 := hide (show ∀ W, Kept [] w17 W → (fun W => Kept [] w17 W ∧ At10 W (ad.add (z * 10)) u.1 u.2 L1 m1 lc1 P1 k1 d1 ∧ At10 W (ad2.add (z * 10)) u.1 u.2 L2 m2 lc2 P2 k2 d2) W from fun W k => ⟨k, HT1.out.kept k, HT2.out.kept k⟩)
   unfold At10 at HALL5
   have HRR := hide (show m1 = u.2.its.length ∧ k1 = u.2.bks.length ∧ m2 = u.2.its.length ∧ k2 = u.2.bks.length from ⟨HR1.out.hn.symm, HR1.out.hk.symm, HR2.out.hn.symm, HR2.out.hk.symm⟩)
   go_wp2
   refine wp_region_noPanic ?_
   refine wp_region_held_drew (S := fun W => Kept [] w17 W ∧ ((W.cell? (ad.add (z * 10)) = some (.int .i64 u.1.s) ∧ W.cell? ⟨(ad.add (z * 10)).block, (ad.add (z * 10)).off + 1, none⟩ = some (.int .i64 u.1.o) ∧ W.cell? ⟨(ad.add (z * 10)).block, (ad.add (z * 10)).off + 2, none⟩ = some (.int .i64 u.1.l) ∧ W.cell? ⟨(ad.add (z * 10)).block, (ad.add (z * 10)).off + 3, none⟩ = some (.int .i64 u.1.v) ∧ W.cell? ⟨(ad.add (z * 10)).block, (ad.add (z * 10)).off + 4, none⟩ = some (.int .i64 u.1.m)) ∧ (W.cell? ⟨(ad.add (z * 10)).block, (ad.add (z * 10)).off + 5, none⟩ = some (.int .i64 u.2.m) ∧ W.cell? ⟨(ad.add (z * 10)).block, (ad.add (z * 10)).off + 5 + 1, none⟩ = some (.int .i64 u.2.l) ∧ W.cell? ⟨(ad.add (z * 10)).block, (ad.add (z * 10)).off + 5 + 2, none⟩ = some (.int .i64 u.2.p) ∧ W.cell? ⟨(ad.add (z * 10)).block, (ad.add (z * 10)).off + 5 + 3, none⟩ = some (.slice L1 m1 lc1) ∧ W.cell? ⟨(ad.add (z * 10)).block, (ad.add (z * 10)).off + 5 + 4, none⟩ = some (.slice P1 k1 d1))) ∧ ((W.cell? (ad2.add (z * 10)) = some (.int .i64 u.1.s) ∧ W.cell? ⟨(ad2.add (z * 10)).block, (ad2.add (z * 10)).off + 1, none⟩ = some (.int .i64 u.1.o) ∧ W.cell? ⟨(ad2.add (z * 10)).block, (ad2.add (z * 10)).off + 2, none⟩ = some (.int .i64 u.1.l) ∧ W.cell? ⟨(ad2.add (z * 10)).block, (ad2.add (z * 10)).off + 3, none⟩ = some (.int .i64 u.1.v) ∧ W.cell? ⟨(ad2.add (z * 10)).block, (ad2.add (z * 10)).off + 4, none⟩ = some (.int .i64 u.1.m)) ∧ (W.cell? ⟨(ad2.add (z * 10)).block, (ad2.add (z * 10)).off + 5, none⟩ = some (.int .i64 u.2.m) ∧ W.cell? ⟨(ad2.add (z * 10)).block, (ad2.add (z * 10)).off + 5 + 1, none⟩ = some (.int .i64 u.2.l) ∧ W.cell? ⟨(ad2.add (z * 10)).block, (ad2.add (z * 10)).off + 5 + 2, none⟩ = some (.int .i64 u.2.p) ∧ W.cell? ⟨(ad2.add (z * 10)).block, (ad2.add (z * 10)).off + 5 + 3, none⟩ = some (.slice L2 m2 lc2) ∧ W.cell? ⟨(ad2.add (z * 10)).block, (ad2.add (z * 10)).off + 5 + 4, none⟩ = some (.slice P2 k2 d2)))) (by kernel_rfl) (by exact HALL5.out _ HKr.out.drew) (fun hHeld => ?_)
   refine tK 0 137 rfl ?_
   try simp only [Act.put, pA, pB, pC]
   refine tK 1 138 rfl ?_
   try simp only [Act.put, pA, pB, pC]
   refine tK 2 139 rfl ?_
   try simp only [Act.put, pA, pB, pC]
   refine tK 3 140 rfl ?_
   try simp only [Act.put, pA, pB, pC]
   refine tK 4 141 rfl ?_
   try simp only [Act.put, pA, pB, pC]
   refine tK 5 142 rfl ?_
   try simp only [Act.put, pA, pB, pC]
   refine tK 6 143 rfl ?_
   try simp only [Act.put, pA, pB, pC]
   refine tK 7 144 rfl ?_
   try simp only [Act.put, pA, pB, pC]
   refine tK 8 145 rfl ?_
   try simp only [Act.put, pA, pB, pC]
   refine tK 9 146 rfl ?_
   try simp only [Act.put, pA, pB, pC]
   refine tK 10 147 rfl ?_
   try simp only [Act.put, pA, pB, pC]
   refine tK 11 148 rfl ?_
   try simp only [Act.put, pA, pB, pC]
   refine tK 12 149 rfl ?_
   try simp only [Act.put, pA, pB, pC]
   refine tK 13 150 rfl ?_
   try simp only [Act.put, pA, pB, pC]
   refine tK 14 151 rfl ?_
   try simp only [Act.put, pA, pB, pC]
   refine tK 15 152 rfl ?_
   try simp only [Act.put, pA, pB, pC]
   refine tK 16 153 rfl ?_
   try simp only [Act.put, pA, pB, pC]
   refine tK 17 154 rfl ?_
   try simp only [Act.put, pA, pB, pC]
   refine tK 18 155 rfl ?_
   try simp only [Act.put, pA, pB, pC]
   refine tK 19 156 rfl ?_
   try simp only [Act.put, pA, pB, pC]
   refine tK 20 157 rfl ?_
   try simp only [Act.put, pA, pB, pC]
   refine tK 21 158 rfl ?_
   try simp only [Act.put, pA, pB, pC]
   refine hO 22 (some 159) rfl fun K hK => ?_
   go_simp
   refine (record.record_any u.2 u.2 L2 P2 L1 P1 m2 lc2 k2 d2 m1 lc1 k1 d1 _ (HR2.out.kept hHeld.1 (by simp)).at_ (HR1.out.kept hHeld.1 (by simp)).at_ (by have h1 := HRR.out; have h2 := HSM.out; omega) (by have h1 := HRR.out; have h2 := HSM.out; omega)).mono ?_
   rintro e1 wQ ⟨rfl, hkQ⟩
   rw [decide_eq_true rfl]
   have HQ := hide (hHeld.1.trans hkQ (by simp))
   refine hK.out _ _ (by exact HALL5.out _ HQ.out) (fun hHeld => ?_)
   clear hK K
   try simp only [Act.put, pA, pB, pC]
   refine tK 23 160 rfl ?_
   try simp only [Act.put, pA, pB, pC]
   refine tK 24 161 rfl ?_
   try simp only [Act.put, pA, pB, pC]
   refine wpAnyH_done (by kernel_rfl) ?_ _
   refine NoPanic.normal ?_
   go_wp2
   refine ⟨⟨z + 1, by omega, by go_num, HQ⟩, ?_⟩
   show j - (intOf _).toNat < j - (intOf _).toNat
   simp only [intOf]
   omega
  ·have hdl : decide ((z : Int) < (j : Int)) = false := decide_eq_false (by omega)
   go_wp2_with fail
   refine (cawake_any _).mono ?_
   rintro e1 wZ ⟨rfl, hkZ⟩
   have HZ := hide ((HK17.out.trans HKr.out (by simp)).trans hkZ (by simp))
   go_wp2
   go_ret
   exact ⟨rfl, HZ.out⟩
end Go.Proofs.YtgifeilmidpkeaaGreat.sc
