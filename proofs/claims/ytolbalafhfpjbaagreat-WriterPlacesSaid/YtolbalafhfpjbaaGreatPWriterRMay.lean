import Derived.Test.YtolbalafhfpjbaaGreatPWriterAdd
import Derived.Test.YtolbalafhfpjbaaGreatPWriterNew
import Derived.Test.YtolbalafhfpjbaaGreatPRefCore
set_option linter.unusedSimpArgs false
set_option linter.unusedVariables false
set_option maxRecDepth 100000
namespace Go.Proofs.YtolbalafhfpjbaaGreat.wr
open Go.RowKit mem base disk owns geom
open sc (Ps Seal sealed Reads putk)
open us (Rw inState TAt IsT backOf grabOf shutOf touchOf)
open item (It Items valsOf allMay)
open record (Rc RcAt cell5 put5 put5_kept)
def fstAt (r q l : Int) (p : Ps) : Int := 2 + 2 * r + 4 * q + p.s * l + offOf p + 1
theorem vals_part {w : World} {S : List Nat} {A : Option Addr} {vs : List Value} (h : Vals w S A vs) (i n : Nat) (ad : Addr) (ha : A = some ad) : Vals w S (some (ad.add i)) ((vs.drop i).take n) := by
 intro j v hv
 rw [List.getElem?_take] at hv
 split at hv
 ·rw [List.getElem?_drop] at hv
  obtain ⟨a2, h2, h3, h4⟩ := h (i + j) v hv
  rw [ha] at h2
  injection h2 with h2
  subst h2
  refine ⟨_, rfl, by rw [block_of_add]; exact h3, ?_⟩
  rw [Addr.add_add]
  exact h4
 ·cases hv
theorem wrap_over (n : Int) : IntKind.i64.wrap (n - 18446744073709551616) = IntKind.i64.wrap n := by
 unfold IntKind.wrap
 rw [show (2 : Int) ^ IntKind.i64.bits = 18446744073709551616 from by decide, show (n - 18446744073709551616) % 18446744073709551616 = n % 18446744073709551616 from by omega]
section
variable (base v d g tp V : Nat) (F : List Nat) (b s l r q : Int) (D : Dk) (T : List Rw) (p : Ps) (its : List It) (bl : List UInt8) (A : Option Addr) (c : Nat) (H : Option Addr) (e : Nat) (w : World)
theorem read_held (k : Nat) (h : Ws w base v d g tp V F b s l r q D T p its bl A c H e) (hk : k < record.count its) :
  Calls Tryz.prog 46 #[.pointer (some ⟨v, 0, none⟩), .int .i64 (fstAt r q l p + k)] w fun ex w' => (∃ A' c', ex = .returned (.tuple #[.slice A' 64 c', .int .i64 0]) ∧ Fresh w w' A' 64 c' ((bl.drop (64 * k)).take 64)) ∧ Kept [] w w' := by
 have hcnt := h.pl.cnt
 have h6 := h.pl.bds
 have hok := h.geo.ok
 unfold Ok at hok
 have hoff := h.pl.off
 have hb := segBd h.geo h.pl.place
 have hof := offOf_le hoff.1
 have HBL := hide (fun W (kk : Kept [] w W) => block_any v d g tp _ _ _ _ p A H b s l r q 0 W (h.at_.keep kk) (h.geo.kept kk) h.pl.place (by omega) (by omega))
 have HBK := hide (fun W (kk : Kept [] w W) => blocks_any v d g tp _ _ _ _ (record.count its) p A H W (h.at_.keep kk) hcnt (by omega))
 obtain ⟨f, hf⟩ : ∃ f, fstAt r q l p = f := ⟨_, rfl⟩
 have hf2 : 2 + 2 * r + 4 * q + p.s * l + offOf p + 1 + 0 = f := by rw [Int.add_zero]; exact hf
 rw [hf2] at HBL
 rw [hf]
 have hfb : 0 ≤ f ∧ f ≤ 10000 := by unfold fstAt at hf; omega
 have e1 : f + (k : Int) - f = k := by omega
 have e2 : IntKind.i64.wrap (k : Int) = k := IntWalk.i64_in _ (by omega)
 have e3 : decide ((k : Int) < 0) = false := decide_eq_false (by omega)
 have e4 : decide ((record.count its : Int) ≤ k) = false := decide_eq_false (by omega)
 obtain ⟨n, hn⟩ : ∃ n, bl.length = n := ⟨_, rfl⟩
 rw [hn] at hcnt
 have hown := h.byt
 have HS := hide h
 obtain ⟨hd, rfl⟩ : ∃ hd, H = some hd := by
  cases H with
  | some x => exact ⟨x, rfl⟩
  | none => exact absurd hown.2 (by rintro (⟨_, h0⟩ | ⟨_, _, _, h0, _⟩) <;> first | omega | cases h0)
 have hcap : n ≤ e := by
  obtain ⟨_, _, h1, h2⟩ := own_slice hown
  cases h1
  omega
 have HF := hide hfb
 have HN := hide hn
 have HC := hide hcnt
 clear h hown hoff hb hof hok hf hf2 hfb hn
 go_enter Tryz.func46, Tryz.ntmps46
 go_wp2_with fail
 refine (HBL.out _ (Kept.refl [] _)).mono ?_
 rintro e1' w1 ⟨rfl, hk1⟩
 have HK1 := hide hk1
 clear hk1
 go_wp2_with fail
 refine (HBK.out _ HK1.out).mono ?_
 rintro e1' w2 ⟨rfl, rfl⟩
 have q9 : w1.cell? ⟨v, 9, none⟩ = some (.slice (some hd) n e) := by rw [← HN.out]; exact (HS.out.at_.keep HK1.out).rows.2
 have f1 : IntKind.i64.wrap ((k : Int) * 64) = (k : Int) * 64 := IntWalk.i64_in _ (by omega)
 have f2 : IntKind.i64.wrap ((k : Int) + 1) = (k : Int) + 1 := IntWalk.i64_in _ (by omega)
 have f3 : IntKind.i64.wrap (((k : Int) + 1) * 64) = ((k : Int) + 1) * 64 := IntWalk.i64_in _ (by omega)
 have g1 : (0 : Int) ≤ (k : Int) * 64 := by omega
 have g2 : ((k : Int) * 64).toNat = 64 * k := by omega
 have g3 : (((k : Int) + 1) * 64).toNat = 64 * k + 64 := by omega
 have g4 : (k : Int) * 64 ≤ ((k : Int) + 1) * 64 := by omega
 have g5 : ((k : Int) + 1) * 64 ≤ (e : Int) := by omega
 have g6 : 64 * k + 64 - 64 * k = 64 := by omega
 have g7 : ¬ (e = 64 * k) := by omega
 have HV := hide (show Vals w1 [] (some (hd.add (64 * k))) (((bl.drop (64 * k)).take 64).map B) from by
  obtain ⟨_, _, h1, _, _, h2, _⟩ := own_slice HS.out.byt
  cases h1
  have h3 := vals_part ((h2 [] (by simp)).kept HK1.out (by simp)) (64 * k) 64 hd rfl
  rw [List.map_take, List.map_drop]
  exact h3)
 have HL := hide (show ((bl.drop (64 * k)).take 64).length = 64 from by have := HN.out; have := HC.out; rw [List.length_take, List.length_drop]; omega)
 clear hcnt hcap
 go_wp2_with fail
 refine (clone_some (hd.add (64 * k)) 64 _ _ _ HV.out HL.out (by omega)).mono ?_
 rintro e1' w3 ⟨g', cap, rfl, hfr, hk3⟩
 have HK3 := hide (HK1.out.trans hk3 (by simp))
 have HFR := hide hfr
 have HSZ := hide HK1.out.size
 clear hk3 hfr
 go_wp2
 refine bodyPost_ret (v := .tuple #[.slice (some ⟨g', 0, none⟩) 64 cap, .int .i64 0]) (by simp [results, Tryz.results46, go_sem]) rfl ?_
 exact ⟨⟨_, _, rfl, HFR.out.mono HSZ.out⟩, HK3.out⟩
theorem read_disk (x : Int) (hx : -9223372036854775808 ≤ x ∧ x < 9223372036854775808) (h : Ws w base v d g tp V F b s l r q D T p its bl A c H e) (hn : ¬ (fstAt r q l p ≤ x ∧ x < fstAt r q l p + record.count its)) :
  Calls Tryz.prog 46 #[.pointer (some ⟨v, 0, none⟩), .int .i64 x] w fun ex w' => Answers w w' ex (D.read x) ∧ Kept [] w w' := by
 have hcnt := h.pl.cnt
 have h6 := h.pl.bds
 have hok := h.geo.ok
 unfold Ok at hok
 have hoff := h.pl.off
 have hb := segBd h.geo h.pl.place
 have hof := offOf_le hoff.1
 have HBL := hide (fun W (kk : Kept [] w W) => block_any v d g tp _ _ _ _ p A H b s l r q 0 W (h.at_.keep kk) (h.geo.kept kk) h.pl.place (by omega) (by omega))
 have HBK := hide (fun W (kk : Kept [] w W) => blocks_any v d g tp _ _ _ _ (record.count its) p A H W (h.at_.keep kk) hcnt (by omega))
 obtain ⟨f, hf⟩ : ∃ f, fstAt r q l p = f := ⟨_, rfl⟩
 have hf2 : 2 + 2 * r + 4 * q + p.s * l + offOf p + 1 + 0 = f := by rw [Int.add_zero]; exact hf
 rw [hf2] at HBL
 rw [hf] at hn
 have hfb : 0 ≤ f ∧ f ≤ 10000 := by unfold fstAt at hf; omega
 obtain ⟨y, hy⟩ : ∃ y, IntKind.i64.wrap (x - f) = y := ⟨_, rfl⟩
 have hyy : y < 0 ∨ (record.count its : Int) ≤ y := by
  by_cases hlo : -9223372036854775808 ≤ x - f
  ·rw [IntWalk.i64_in _ (by omega)] at hy
   omega
  ·refine .inr ?_
   rw [show x - f = (x - f + 18446744073709551616) - 18446744073709551616 from by omega] at hy
   have : IntKind.i64.wrap (x - f + 18446744073709551616 - 18446744073709551616) = x - f + 18446744073709551616 := by
    rw [wrap_over]
    exact IntWalk.i64_in _ (by omega)
   omega
 have HS := hide h
 have HY := sealed hy
 have fin : ∀ W, Kept [] w W → Calls Tryz.prog 64 #[.pointer (some ⟨d, 0, none⟩), .int .i64 x] W fun ex w' => ∃ A' c', ex = .returned (.tuple #[.slice A' (D.read x).2.length c', .int .i64 (D.read x).1]) ∧ Fresh w w' A' (D.read x).2.length c' (D.read x).2 ∧ Kept [] w w' := fun W k => (read_at d F D x W (HS.out.keep k).vd).mono fun ex w' ⟨⟨A', c', h1, h2⟩, h3⟩ => ⟨A', c', h1, h2.mono k.size, k.trans h3 (by simp)⟩
 have HFIN := hide fin
 clear fin
 obtain ⟨rd, hrd⟩ : ∃ rd, D.read x = rd := ⟨_, rfl⟩
 rw [hrd] at HFIN ⊢
 clear hrd
 clear h hoff hb hof hok hf hf2 hfb hcnt hx hn
 go_enter Tryz.func46, Tryz.ntmps46
 go_wp2_with fail
 refine (HBL.out _ (Kept.refl [] _)).mono ?_
 rintro e1' w1 ⟨rfl, hk1⟩
 have HK1 := hide hk1
 clear hk1
 have hyr := HY.out
 have q0 := (HS.out.keep HK1.out).at_.ptr.1
 by_cases hy0 : y < 0
 ·have e3 : decide (y < 0) = true := decide_eq_true hy0
  clear hyy hy0
  go_wp2_with fail
  refine (HFIN.out _ HK1.out).mono ?_
  rintro e1' w3 ⟨A', cap, rfl, hfr, hk3⟩
  have HK3 := hide hk3
  have HFR := hide hfr
  clear hk3 hfr
  go_wp2
  refine bodyPost_ret (v := .tuple #[.slice A' rd.2.length cap, .int .i64 rd.1]) (by simp [results, Tryz.results46, go_sem]) rfl ?_
  exact ⟨⟨_, _, rfl, HFR.out⟩, HK3.out⟩
 ·have e3 : decide (y < 0) = false := decide_eq_false hy0
  have e4 : decide ((record.count its : Int) ≤ y) = true := decide_eq_true (by omega)
  clear hyy hy0
  go_wp2_with fail
  refine (HBK.out _ HK1.out).mono ?_
  rintro e1' w2 ⟨rfl, rfl⟩
  go_wp2_with fail
  refine (HFIN.out _ HK1.out).mono ?_
  rintro e1' w3 ⟨A', cap, rfl, hfr, hk3⟩
  have HK3 := hide hk3
  have HFR := hide hfr
  clear hk3 hfr
  go_wp2
  refine bodyPost_ret (v := .tuple #[.slice A' rd.2.length cap, .int .i64 rd.1]) (by simp [results, Tryz.results46, go_sem]) rfl ?_
  exact ⟨⟨_, _, rfl, HFR.out⟩, HK3.out⟩
end
end Go.Proofs.YtolbalafhfpjbaaGreat.wr

namespace Go.Proofs.YtolbalafhfpjbaaGreat.wr
open Go.RowKit mem base disk owns geom
open sc (Ps Seal sealed)
open record (cell5)
def rplaceOk (s l : Int) (p : Ps) : Prop := (0 ≤ p.s ∧ p.s ≤ s - 1) ∧ (0 ≤ p.o ∧ p.o ≤ l - 1) ∧ (1 ≤ p.l ∧ p.l ≤ 2147483647) ∧ (1 ≤ p.m ∧ p.m ≤ 2147483647) ∧ (0 ≤ p.v ∧ p.v ≤ 4294967295)
instance (s l : Int) (p : Ps) : Decidable (rplaceOk s l p) := by unfold rplaceOk; infer_instance
theorem rplace_iff (s l : Int) (p : Ps) : decide (rplaceOk s l p) = decide (placeOk s l p) := by
 unfold rplaceOk placeOk
 apply decide_eq_decide.2
 omega
theorem rwithin_any (n a b : Int) (w : World) :
  Calls Tryz.prog 74 #[.int .i64 n, .int .i64 a, .int .i64 b] w fun e w' => e = .returned (.bool (decide (a ≤ n ∧ n ≤ b))) ∧ w = w' :=
 (ref.within_any n a b w).mono fun e w' ⟨h1, h2⟩ => ⟨by rw [h1, Bool.decide_and], h2⟩
theorem posMay_any (b s l : Int) (p : Ps) (w : World) (hs : 1 ≤ s ∧ s ≤ 1000) (hl : 1 ≤ l ∧ l ≤ 1000) :
  Calls Tryz.prog 164 #[.agg #[.int .i64 b, .int .i64 s, .int .i64 l], p.val] w fun e' w' => e' = .returned (.bool (decide (rplaceOk s l p))) ∧ Kept [] w w' := by
 obtain ⟨z, hz⟩ : ∃ z, w.heap.size = z := ⟨_, rfl⟩
 obtain ⟨w0, hw0⟩ : ∃ w0, (w.alloc (.cells #[.int .i64 b, .int .i64 s, .int .i64 l] 29)).alloc (.cells #[.int .i64 p.s, .int .i64 p.o, .int .i64 p.l, .int .i64 p.v, .int .i64 p.m] 24) = w0 := ⟨_, rfl⟩
 have hk0 : Kept [] w w0 := by rw [← hw0]; exact ((Kept.refl [] w).alloc _).alloc _
 have hb0 : Blk w0 z 29 #[.int .i64 b, .int .i64 s, .int .i64 l] := by rw [← hw0, ← hz]; exact (Blk.new w _ _).alloc _
 have hb1 : Blk w0 (z + 1) 24 #[.int .i64 p.s, .int .i64 p.o, .int .i64 p.l, .int .i64 p.v, .int .i64 p.m] := by
  rw [← hw0, ← hz]
  have := Blk.new (w.alloc (.cells #[.int .i64 b, .int .i64 s, .int .i64 l] 29)) 24 #[.int .i64 p.s, .int .i64 p.o, .int .i64 p.l, .int .i64 p.v, .int .i64 p.m]
  rw [World.size_alloc] at this
  exact this
 obtain ⟨p0, p1, p2, p3, p4⟩ := cell5 hb1
 obtain ⟨c0, c1, c2⟩ : w0.cell? ⟨z, 0, none⟩ = some (.int .i64 b) ∧ w0.cell? ⟨z, 1, none⟩ = some (.int .i64 s) ∧ w0.cell? ⟨z, 2, none⟩ = some (.int .i64 l) := ⟨hb0.cell 0, hb0.cell 1, hb0.cell 2⟩
 have HKE := hide hk0
 have u1 : IntKind.i64.wrap (s - 1) = s - 1 := IntWalk.i64_in _ (by omega)
 have u2 : IntKind.i64.wrap (l - 1) = l - 1 := IntWalk.i64_in _ (by omega)
 clear hk0 hb0 hb1
 unfold Ps.val
 by_cases h0 : (0 ≤ p.s ∧ p.s ≤ s - 1)
 ·by_cases h1 : (0 ≤ p.o ∧ p.o ≤ l - 1)
  ·by_cases h2 : (1 ≤ p.l ∧ p.l ≤ 2147483647)
   ·by_cases h3 : (1 ≤ p.m ∧ p.m ≤ 2147483647)
    ·by_cases h4 : (0 ≤ p.v ∧ p.v ≤ 4294967295)
     ·go_enter Tryz.func164, Tryz.ntmps164
      go_wp2_with fail
      refine (rwithin_any (p.s) (0) (s - 1) _).mono ?_
      rintro e1 w1 ⟨rfl, rfl⟩
      rw [decide_eq_true h0]
      go_wp2_with fail
      refine (rwithin_any (p.o) (0) (l - 1) _).mono ?_
      rintro e1 w1 ⟨rfl, rfl⟩
      rw [decide_eq_true h1]
      go_wp2_with fail
      refine (rwithin_any (p.l) (1) (2147483647) _).mono ?_
      rintro e1 w1 ⟨rfl, rfl⟩
      rw [decide_eq_true h2]
      go_wp2_with fail
      refine (rwithin_any (p.m) (1) (2147483647) _).mono ?_
      rintro e1 w1 ⟨rfl, rfl⟩
      rw [decide_eq_true h3]
      go_wp2_with fail
      refine (rwithin_any (p.v) (0) (4294967295) _).mono ?_
      rintro e1 w1 ⟨rfl, rfl⟩
      rw [decide_eq_true h4]
      go_wp2
      go_ret
      exact ⟨by rw [decide_eq_true (by unfold rplaceOk; exact ⟨h0, h1, h2, h3, h4⟩)]; rfl, HKE.out⟩
     ·go_enter Tryz.func164, Tryz.ntmps164
      go_wp2_with fail
      refine (rwithin_any (p.s) (0) (s - 1) _).mono ?_
      rintro e1 w1 ⟨rfl, rfl⟩
      rw [decide_eq_true h0]
      go_wp2_with fail
      refine (rwithin_any (p.o) (0) (l - 1) _).mono ?_
      rintro e1 w1 ⟨rfl, rfl⟩
      rw [decide_eq_true h1]
      go_wp2_with fail
      refine (rwithin_any (p.l) (1) (2147483647) _).mono ?_
      rintro e1 w1 ⟨rfl, rfl⟩
      rw [decide_eq_true h2]
      go_wp2_with fail
      refine (rwithin_any (p.m) (1) (2147483647) _).mono ?_
      rintro e1 w1 ⟨rfl, rfl⟩
      rw [decide_eq_true h3]
      go_wp2_with fail
      refine (rwithin_any (p.v) (0) (4294967295) _).mono ?_
      rintro e1 w1 ⟨rfl, rfl⟩
      rw [decide_eq_false h4]
      go_wp2
      go_ret
      exact ⟨by rw [decide_eq_false (by unfold rplaceOk; exact fun hc => h4 hc.2.2.2.2)]; rfl, HKE.out⟩
    ·go_enter Tryz.func164, Tryz.ntmps164
     go_wp2_with fail
     refine (rwithin_any (p.s) (0) (s - 1) _).mono ?_
     rintro e1 w1 ⟨rfl, rfl⟩
     rw [decide_eq_true h0]
     go_wp2_with fail
     refine (rwithin_any (p.o) (0) (l - 1) _).mono ?_
     rintro e1 w1 ⟨rfl, rfl⟩
     rw [decide_eq_true h1]
     go_wp2_with fail
     refine (rwithin_any (p.l) (1) (2147483647) _).mono ?_
     rintro e1 w1 ⟨rfl, rfl⟩
     rw [decide_eq_true h2]
     go_wp2_with fail
     refine (rwithin_any (p.m) (1) (2147483647) _).mono ?_
     rintro e1 w1 ⟨rfl, rfl⟩
     rw [decide_eq_false h3]
     go_wp2
     go_ret
     exact ⟨by rw [decide_eq_false (by unfold rplaceOk; exact fun hc => h3 hc.2.2.2.1)]; rfl, HKE.out⟩
   ·go_enter Tryz.func164, Tryz.ntmps164
    go_wp2_with fail
    refine (rwithin_any (p.s) (0) (s - 1) _).mono ?_
    rintro e1 w1 ⟨rfl, rfl⟩
    rw [decide_eq_true h0]
    go_wp2_with fail
    refine (rwithin_any (p.o) (0) (l - 1) _).mono ?_
    rintro e1 w1 ⟨rfl, rfl⟩
    rw [decide_eq_true h1]
    go_wp2_with fail
    refine (rwithin_any (p.l) (1) (2147483647) _).mono ?_
    rintro e1 w1 ⟨rfl, rfl⟩
    rw [decide_eq_false h2]
    go_wp2
    go_ret
    exact ⟨by rw [decide_eq_false (by unfold rplaceOk; exact fun hc => h2 hc.2.2.1)]; rfl, HKE.out⟩
  ·go_enter Tryz.func164, Tryz.ntmps164
   go_wp2_with fail
   refine (rwithin_any (p.s) (0) (s - 1) _).mono ?_
   rintro e1 w1 ⟨rfl, rfl⟩
   rw [decide_eq_true h0]
   go_wp2_with fail
   refine (rwithin_any (p.o) (0) (l - 1) _).mono ?_
   rintro e1 w1 ⟨rfl, rfl⟩
   rw [decide_eq_false h1]
   go_wp2
   go_ret
   exact ⟨by rw [decide_eq_false (by unfold rplaceOk; exact fun hc => h1 hc.2.1)]; rfl, HKE.out⟩
 ·go_enter Tryz.func164, Tryz.ntmps164
  go_wp2_with fail
  refine (rwithin_any (p.s) (0) (s - 1) _).mono ?_
  rintro e1 w1 ⟨rfl, rfl⟩
  rw [decide_eq_false h0]
  go_wp2
  go_ret
  exact ⟨by rw [decide_eq_false (by unfold rplaceOk; exact fun hc => h0 hc.1)]; rfl, HKE.out⟩
def RWAt (W : World) (v r tp : Nat) (b s l : Int) (p : Ps) (A : Option Addr) (n c : Nat) (H : Option Addr) (m e : Nat) : Prop :=
 Blk W v 185 #[.pointer (some ⟨r, 0, none⟩), .int .i64 b, .int .i64 s, .int .i64 l, .pointer (some ⟨tp, 0, none⟩), .int .i64 p.s, .int .i64 p.o, .int .i64 p.l, .int .i64 p.v, .int .i64 p.m, .slice A n c, .slice H m e]
theorem rwnew_any (d tp : Nat) (b s l : Int) (p : Ps) (w : World) (hs : 1 ≤ s ∧ s ≤ 1000) (hl : 1 ≤ l ∧ l ≤ 1000) :
  Calls Tryz.prog 101 #[.pointer (some ⟨d, 0, none⟩), .agg #[.int .i64 b, .int .i64 s, .int .i64 l], .pointer (some ⟨tp, 0, none⟩), p.val] w fun e w' =>
   Kept [] w w' ∧ ((placeOk s l p ∧ ∃ v, e = .returned (.pointer (some ⟨v, 0, none⟩)) ∧ w.heap.size ≤ v ∧ RWAt w' v d tp b s l p none 0 0 none 0 0) ∨ (¬ placeOk s l p ∧ e = .returned (.pointer none))) := by
 obtain ⟨z, hz⟩ : ∃ z, w.heap.size = z := ⟨_, rfl⟩
 obtain ⟨w0, hw0⟩ : ∃ w0, (w.alloc (.cells #[.int .i64 b, .int .i64 s, .int .i64 l] 29)).alloc (.cells #[.int .i64 p.s, .int .i64 p.o, .int .i64 p.l, .int .i64 p.v, .int .i64 p.m] 24) = w0 := ⟨_, rfl⟩
 have hk0 : Kept [] w w0 := by rw [← hw0]; exact ((Kept.refl [] w).alloc _).alloc _
 have hb0 : Blk w0 z 29 #[.int .i64 b, .int .i64 s, .int .i64 l] := by rw [← hw0, ← hz]; exact (Blk.new w _ _).alloc _
 have hb1 : Blk w0 (z + 1) 24 #[.int .i64 p.s, .int .i64 p.o, .int .i64 p.l, .int .i64 p.v, .int .i64 p.m] := by
  rw [← hw0, ← hz]
  have := Blk.new (w.alloc (.cells #[.int .i64 b, .int .i64 s, .int .i64 l] 29)) 24 #[.int .i64 p.s, .int .i64 p.o, .int .i64 p.l, .int .i64 p.v, .int .i64 p.m]
  rw [World.size_alloc] at this
  exact this
 obtain ⟨p0, p1, p2, p3, p4⟩ := cell5 hb1
 obtain ⟨c0, c1, c2⟩ : w0.cell? ⟨z, 0, none⟩ = some (.int .i64 b) ∧ w0.cell? ⟨z, 1, none⟩ = some (.int .i64 s) ∧ w0.cell? ⟨z, 2, none⟩ = some (.int .i64 l) := ⟨hb0.cell 0, hb0.cell 1, hb0.cell 2⟩
 have HK := hide hk0
 have HB0 := hide hb0
 have HB1 := hide hb1
 have HM := hide (fun W => posMay_any b s l p W hs hl)
 rw [rplace_iff] at HM
 obtain ⟨y, hy⟩ : ∃ y, decide (placeOk s l p) = y := ⟨_, rfl⟩
 have HYE := hide hy
 rw [hy] at HM
 clear hk0 hb0 hb1 hy
 unfold Ps.val at HM ⊢
 go_enter Tryz.func101, Tryz.ntmps101
 go_wp2_with fail
 refine (HM.out _).mono ?_
 rintro e1 w1 ⟨rfl, hk1⟩
 have HK1 := hide (HK.out.trans hk1 (by simp))
 have hb0 := hk1.blk HB0.out (by simp)
 have hb1 := hk1.blk HB1.out (by simp)
 have HSZ := hide HK1.out.size
 cases y
 ·clear hk1 hb0 hb1
  go_wp2
  go_ret
  exact ⟨HK1.out, .inr ⟨of_decide_eq_false HYE.out, rfl⟩⟩
 ·obtain ⟨q0, q1, q2, q3, q4⟩ := cell5 hb1
  obtain ⟨d0, d1, d2⟩ : w1.cell? ⟨z, 0, none⟩ = some (.int .i64 b) ∧ w1.cell? ⟨z, 1, none⟩ = some (.int .i64 s) ∧ w1.cell? ⟨z, 2, none⟩ = some (.int .i64 l) := ⟨hb0.cell 0, hb0.cell 1, hb0.cell 2⟩
  clear hk1 hb0 hb1 p0 p1 p2 p3 p4 c0 c1 c2
  go_wp2
  go_ret
  exact ⟨HK1.out.alloc _, .inl ⟨of_decide_eq_true HYE.out, w1.heap.size, rfl, HSZ.out, Blk.new w1 _ _⟩⟩
end Go.Proofs.YtolbalafhfpjbaaGreat.wr
