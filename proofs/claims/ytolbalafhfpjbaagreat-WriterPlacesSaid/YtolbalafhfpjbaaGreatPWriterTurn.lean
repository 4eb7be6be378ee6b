import Derived.Test.YtolbalafhfpjbaaGreatPWriterEmit
import Derived.Test.YtolbalafhfpjbaaGreatPUsageFree
set_option linter.unusedSimpArgs false
set_option linter.unusedVariables false
set_option maxRecDepth 100000
set_option maxHeartbeats 2000000
namespace Go.Proofs.YtolbalafhfpjbaaGreat.wr
open Go.RowKit mem base disk owns geom
open sc (Ps Seal sealed Reads putk)
open us (Rw inState TAt IsT backOf)
open item (It Items valsOf allMay)
open record (Rc RcAt cell5 put5 put5_kept)
theorem mayTurn_any (base v d g tp V : Nat) (F : List Nat) (b s l r q : Int) (D : Dk) (T : List Rw) (p : Ps) (its : List It) (bl : List UInt8) (A : Option Addr) (c : Nat) (H : Option Addr) (e : Nat) (spare : Bool) (w : World) (h : Ws w base v d g tp V F b s l r q D T p its bl A c H e) :
  Calls Tryz.prog 200 #[.pointer (some ⟨v, 0, none⟩), .bool spare] w fun ex w' => ex = .returned (.int .i64 (if ((inState T 0 T.length).length : Int) ≤ backOf spare then 6 else 0)) ∧ Kept [] w w' := by
 have HS := hide h
 have hls := h.pl.lsn
 have hl1 : IntKind.i64.wrap (p.l + 1) = p.l + 1 := IntWalk.i64_in _ (by omega)
 have hl2 : IntKind.i64.wrap (p.l + 1 + 1) = p.l + 1 + 1 := IntWalk.i64_in _ (by omega)
 have hm1 : decide (p.l + 1 > 2147483647) = false := decide_eq_false (by omega)
 have hm2 : decide (p.l + 1 + 1 > 2147483647) = false := decide_eq_false (by omega)
 have hm3 : decide (2147483647 < p.l + 1) = false := decide_eq_false (by omega)
 have hm4 : decide (2147483647 < p.l + 1 + 1) = false := decide_eq_false (by omega)
 have n1 : ¬ 2147483647 < p.l + 1 := by omega
 have n2 : ¬ 2147483647 < p.l + 1 + 1 := by omega
 have hTl : T.length ≤ 65536 := by
  have h1 := h.tab.len
  have h2 := h.geo.ok
  unfold Ok at h2
  omega
 have HFR := hide (fun W hk => us.free_any (some ⟨tp, 0, none⟩) T hTl W (.inr ⟨tp, V, b, s, l, r, q, rfl, h.tab.keep hk⟩))
 have HALL := hide (show ∀ W, Kept [] w W → (fun W => Kept [] w W ∧ W.cell? ⟨v, 5, none⟩ = some (.int .i64 p.l)) W from fun W k => ⟨k, (h.at_.keep k).place.2.2.1⟩)
 obtain ⟨fr, hfr⟩ : ∃ fr : Nat, (inState T 0 T.length).length = fr := ⟨_, rfl⟩
 rw [hfr] at HFR ⊢
 obtain ⟨an, han⟩ : ∃ an : Int, (if (fr : Int) ≤ backOf spare then 6 else 0) = an := ⟨_, rfl⟩
 have HAN := hide han
 rw [han]
 clear han
 have HD0 := hide ((Kept.refl [] w).drew)
 obtain ⟨q2, _⟩ : w.drew.cell? ⟨v, 2, none⟩ = some (.pointer (some ⟨tp, 0, none⟩)) ∧ True := ⟨(h.at_.keep (Kept.refl [] w).drew).ptr.2.2, trivial⟩
 have q8 := (h.at_.keep (Kept.refl [] w).drew).rows.1
 clear h hls hfr
 go_enter Tryz.func200, Tryz.ntmps200
 go_wp2
 refine wp_region_noPanic ?_
 refine wp_region_held_drew (S := fun W => Kept [] w W ∧ W.cell? ⟨v, 5, none⟩ = some (.int .i64 p.l)) (by kernel_rfl) (by exact HALL.out _ HD0.out) (fun hHeld => ?_)
 refine tK 0 7 rfl ?_
 try simp only [Act.put, pA, pB, pC]
 refine tK 1 8 rfl ?_
 try simp only [Act.put, pA, pB, pC]
 refine tK 2 9 rfl ?_
 try simp only [Act.put, pA, pB, pC]
 refine tK 3 10 rfl ?_
 try simp only [Act.put, pA, pB, pC]
 refine tK 4 11 rfl ?_
 try simp only [Act.put, pA, pB, pC]
 refine tK 5 12 rfl ?_
 try simp only [Act.put, pA, pB, pC]
 refine tK 6 5 rfl ?_
 try simp only [Act.put, pA, pB, pC]
 refine tK 7 6 rfl ?_
 try simp only [Act.put, pA, pB, pC]
 refine wpAnyH_done (by kernel_rfl) ?_ _
 refine NoPanic.normal ?_
 clear hHeld
 cases spare
 ·by_cases hw : its.length = 0
  ·have d1 : decide ((its.length : Int) > 0) = false := decide_eq_false (by omega)
   have d2 : decide (0 < (its.length : Int)) = false := decide_eq_false (by omega)
   by_cases hf : (fr : Int) ≤ 2
   ·have HA := hide (show an = 6 from by rw [← HAN.out]; exact if_pos hf)
    have hd := decide_eq_true hf
    go_wp2_with fail
    refine (HFR.out _ HD0.out).mono ?_
    rintro e1 w2 ⟨rfl, hk2⟩
    have H2 := hide (HD0.out.trans hk2 (by simp))
    go_wp2
    go_ret
    exact ⟨by rw [HA.out]; rfl, H2.out⟩
   ·have HA := hide (show an = 0 from by rw [← HAN.out]; exact if_neg hf)
    have hd := decide_eq_false hf
    go_wp2_with fail
    refine (HFR.out _ HD0.out).mono ?_
    rintro e1 w2 ⟨rfl, hk2⟩
    have H2 := hide (HD0.out.trans hk2 (by simp))
    go_wp2
    go_ret
    exact ⟨by rw [HA.out]; rfl, H2.out⟩
  ·have d1 : decide ((its.length : Int) > 0) = true := decide_eq_true (by omega)
   have d2 : decide (0 < (its.length : Int)) = true := decide_eq_true (by omega)
   by_cases hf : (fr : Int) ≤ 2
   ·have HA := hide (show an = 6 from by rw [← HAN.out]; exact if_pos hf)
    have hd := decide_eq_true hf
    go_wp2_with fail
    refine (HFR.out _ HD0.out).mono ?_
    rintro e1 w2 ⟨rfl, hk2⟩
    have H2 := hide (HD0.out.trans hk2 (by simp))
    go_wp2
    go_ret
    exact ⟨by rw [HA.out]; rfl, H2.out⟩
   ·have HA := hide (show an = 0 from by rw [← HAN.out]; exact if_neg hf)
    have hd := decide_eq_false hf
    go_wp2_with fail
    refine (HFR.out _ HD0.out).mono ?_
    rintro e1 w2 ⟨rfl, hk2⟩
    have H2 := hide (HD0.out.trans hk2 (by simp))
    go_wp2
    go_ret
    exact ⟨by rw [HA.out]; rfl, H2.out⟩
 ·by_cases hw : its.length = 0
  ·have d1 : decide ((its.length : Int) > 0) = false := decide_eq_false (by omega)
   have d2 : decide (0 < (its.length : Int)) = false := decide_eq_false (by omega)
   by_cases hf : (fr : Int) ≤ 0
   ·have HA := hide (show an = 6 from by rw [← HAN.out]; exact if_pos hf)
    have hd := decide_eq_true hf
    go_wp2_with fail
    refine (HFR.out _ HD0.out).mono ?_
    rintro e1 w2 ⟨rfl, hk2⟩
    have H2 := hide (HD0.out.trans hk2 (by simp))
    go_wp2
    go_ret
    exact ⟨by rw [HA.out]; rfl, H2.out⟩
   ·have HA := hide (show an = 0 from by rw [← HAN.out]; exact if_neg hf)
    have hd := decide_eq_false hf
    go_wp2_with fail
    refine (HFR.out _ HD0.out).mono ?_
    rintro e1 w2 ⟨rfl, hk2⟩
    have H2 := hide (HD0.out.trans hk2 (by simp))
    go_wp2
    go_ret
    exact ⟨by rw [HA.out]; rfl, H2.out⟩
  ·have d1 : decide ((its.length : Int) > 0) = true := decide_eq_true (by omega)
   have d2 : decide (0 < (its.length : Int)) = true := decide_eq_true (by omega)
   by_cases hf : (fr : Int) ≤ 0
   ·have HA := hide (show an = 6 from by rw [← HAN.out]; exact if_pos hf)
    have hd := decide_eq_true hf
    go_wp2_with fail
    refine (HFR.out _ HD0.out).mono ?_
    rintro e1 w2 ⟨rfl, hk2⟩
    have H2 := hide (HD0.out.trans hk2 (by simp))
    go_wp2
    go_ret
    exact ⟨by rw [HA.out]; rfl, H2.out⟩
   ·have HA := hide (show an = 0 from by rw [← HAN.out]; exact if_neg hf)
    have hd := decide_eq_false hf
    go_wp2_with fail
    refine (HFR.out _ HD0.out).mono ?_
    rintro e1 w2 ⟨rfl, hk2⟩
    have H2 := hide (HD0.out.trans hk2 (by simp))
    go_wp2
    go_ret
    exact ⟨by rw [HA.out]; rfl, H2.out⟩
end Go.Proofs.YtolbalafhfpjbaaGreat.wr

namespace Go.Proofs.YtolbalafhfpjbaaGreat.wr
open Go.RowKit mem base disk owns geom
open sc (Ps Seal sealed Reads putk)
open us (Rw inState TAt IsT backOf grabOf shutOf touchOf)
open item (It Items valsOf allMay)
open record (Rc RcAt cell5 put5 put5_kept)
def allP (p : Ps) (its : List It) (bl : List UInt8) : Ps := if its = [] then p else emitP p its bl
def allD (D : Dk) (x : Int) (p : Ps) (its : List It) (bl : List UInt8) : Dk := if its = [] then D else emitD D x p its bl
def allT (T : List Rw) (p : Ps) (its : List It) : List Rw := if its = [] then T else touchOf T p.s p.l
theorem emit_all (base v d g tp V : Nat) (F : List Nat) (b s l r q : Int) (D : Dk) (T : List Rw) (p : Ps) (its : List It) (bl : List UInt8) (A : Option Addr) (c : Nat) (H : Option Addr) (e : Nat) (w : World) (h : Ws w base v d g tp V F b s l r q D T p its bl A c H e) (hac : D.acts ≤ 700000) (hln : p.l ≤ 1900000000) :
  Calls Tryz.prog 44 #[.pointer (some ⟨v, 0, none⟩)] w fun ex w' => ex = .returned (.int .i64 0) ∧
   ∃ F' A' c' H' e', Ws w' base v d g tp V F' b s l r q (allD D (2 + 2 * r + 4 * q + p.s * l) p its bl) (allT T p its) (allP p its bl) [] [] A' c' H' e' ∧ (∀ x ∈ F', x ∈ F ∨ w.heap.size ≤ x) ∧ Kept (v :: V :: F) w w' ∧ (∀ j ∈ (Value.slice A' ([] : List It).length c').ownBlock.toList, j ∈ (Value.slice A its.length c).ownBlock.toList) ∧ (∀ j ∈ (Value.slice H' ([] : List UInt8).length e').ownBlock.toList, j ∈ (Value.slice H bl.length e).ownBlock.toList) := by
 by_cases hne : its = []
 ·subst hne
  have hb : bl = [] := List.eq_nil_of_length_eq_zero (by have := h.pl.cnt; simpa [record.count] using this)
  subst hb
  refine (emit_none base v d g tp V F b s l r q D T p [] A c H e w h).mono ?_
  rintro ex w' ⟨rfl, rfl⟩
  exact ⟨rfl, F, A, c, H, e, by simpa [allD, allT, allP] using h, fun x hx => .inl hx, Kept.refl _ _, fun j hj => hj, fun j hj => hj⟩
 ·refine (emit_any base v d g tp V F b s l r q D T p its bl A c H e w h hne hac hln).mono ?_
  rintro ex w' ⟨rfl, F', h1, h2, h3⟩
  exact ⟨rfl, F', none, 0, none, 0, by simpa [allD, allT, allP, hne] using h1, h2, h3, by simp [Value.ownBlock], by simp [Value.ownBlock]⟩
def nextI (x : Int) : It := ⟨7, 0, 0, x⟩
def turnR (p : Ps) (x : Int) : Rc := recAt p [nextI x] [] 0
def turnP (p : Ps) (x : Int) : Ps := ⟨x, 1, p.l + 1, ((turnR p x).sum : Int), p.m⟩
def turnD (D : Dk) (r q l : Int) (p : Ps) (x : Int) : Dk := headD (putk D (2 + 2 * r + 4 * q + p.s * l + p.o) (turnR p x).bytes 1) (2 + 2 * r + 4 * q + x * l) (turnP p x)
theorem turn_ok {s l r q : Int} {p : Ps} {D : Dk} {x : Int} (h : Pl s l r q p [] [] D) (hx : 0 ≤ x ∧ x ≤ s - 1) (hs : s ≤ 32) : (turnR p x).ok := by
 have h1 := h.lsn; have h2 := h.mount; have h3 := h.prev
 refine ⟨by unfold turnR recAt; dsimp only; omega, by unfold turnR recAt; dsimp only; omega, by unfold turnR recAt; dsimp only; omega, ⟨by simp [turnR, recAt], by simp [turnR, recAt]⟩, ?_, by simp [turnR, recAt, blksOf, record.count, nextI, item.It.loaded], by simp [turnR, recAt, blksOf, record.all64]⟩
 intro i hi
 have : i = nextI x := by simpa [turnR, recAt] using hi
 subst this
 rw [item.It.may_iff]
 unfold item.It.ok nextI
 dsimp only
 omega
theorem turn_pl {s l r q : Int} {p : Ps} {D : Dk} {x : Int} (h : Pl s l r q p [] [] D) (hx : 0 ≤ x ∧ x ≤ s - 1) (hs : s ≤ 32) (h0 : 0 ≤ r ∧ 0 ≤ q) (hl : 2 ≤ l ∧ l ≤ 1000) (hpo : 1 ≤ p.o) (hac : D.acts ≤ 700000) (hln : p.l ≤ 1900000000) :
  Pl s l r q (turnP p x) [] [] (turnD D r q l p x) ∧ (turnD D r q l p x).n = D.n ∧ (turnD D r q l p x).acts ≤ D.acts + 2 ∧ ∃ a : Nat, 2 + 2 * r + 4 * q + p.s * l + p.o = (a : Int) ∧ a + 1 ≤ D.n ∧ Reads (putk D (a : Int) (turnR p x).bytes 1) ∧ (putk D (a : Int) (turnR p x).bytes 1).acts = D.acts + 1 ∧ Pl s l r q (turnP p x) [] [] (putk D (a : Int) (turnR p x).bytes 1) := by
 have h1 : 0 ≤ p.s * l := Int.mul_nonneg h.place.1 (by omega)
 have h2 : p.s * l ≤ (s - 1) * l := Int.mul_le_mul_of_nonneg_right h.place.2 (by omega)
 rw [Int.sub_mul, Int.one_mul] at h2
 have h3 := h.fits
 have ho := h.off
 obtain ⟨a, ha⟩ : ∃ a : Nat, 2 + 2 * r + 4 * q + p.s * l + p.o = (a : Int) := ⟨(2 + 2 * r + 4 * q + p.s * l + p.o).toNat, by omega⟩
 have hb := Rc.bytes_len (turn_ok h hx hs)
 rw [show (turnR p x).bks.length = 0 from blksOf_len _ _] at hb
 obtain ⟨g1, g2, g3⟩ := putk_reads h.reads a _ 1 (by omega) hb
 have hsum : (turnR p x).sum ≤ 4294967295 := by first | exact crc.more_le _ _ | exact crcMath.more_le _ _
 have hp1 : Pl s l r q (turnP p x) [] [] (putk D (a : Int) (turnR p x).bytes 1) := ⟨hx, by unfold turnP; dsimp only; omega, by have := h.lsn; unfold turnP; dsimp only; omega, by unfold turnP; dsimp only; omega, h.mount, ⟨by intro i hi; simp at hi, by simp⟩, by simp [record.count], fun hn => absurd rfl hn, g1, by rw [g2]; exact h3, by rw [g3]; omega⟩
 obtain ⟨_, _, e3, e4, e5⟩ := head_ok hp1 hs h0 (by omega)
 have he : turnD D r q l p x = headD (putk D (a : Int) (turnR p x).bytes 1) (2 + 2 * r + 4 * q + x * l) (turnP p x) := by unfold turnD; rw [ha]
 rw [he]
 refine ⟨⟨hx, by unfold turnP; dsimp only; omega, by have := h.lsn; unfold turnP; dsimp only; omega, by unfold turnP; dsimp only; omega, h.mount, ⟨by intro i hi; simp at hi, by simp⟩, by simp [record.count], fun hn => absurd rfl hn, e3, ?_, ?_⟩, ?_, ?_, a, ha, by omega, g1, g3, hp1⟩
 ·show _ ≤ ((headD _ (2 + 2 * r + 4 * q + (turnP p x).s * l) _).n : Int)
  rw [e4, g2]; exact h3
 ·show (headD _ (2 + 2 * r + 4 * q + (turnP p x).s * l) _).acts ≤ _
  rw [e5, g3]; omega
 ·show (headD _ (2 + 2 * r + 4 * q + (turnP p x).s * l) _).n = _
  rw [e4, g2]
 ·show (headD _ (2 + 2 * r + 4 * q + (turnP p x).s * l) _).acts ≤ _
  rw [e5, g3]; omega
theorem turn_any (base v d g tp V : Nat) (F : List Nat) (b s l r q : Int) (D : Dk) (T : List Rw) (p : Ps) (its : List It) (bl : List UInt8) (A : Option Addr) (c : Nat) (H : Option Addr) (e : Nat) (spare : Bool) (x : Int) (L0 : List Int) (w : World) (h : Ws w base v d g tp V F b s l r q D T p its bl A c H e)
  (hm : ¬ ((inState T 0 T.length).length : Int) ≤ backOf spare) (hn : inState (allT T p its) 0 (allT T p its).length = x :: L0) (hlen : backOf spare < ((x :: L0).length : Int)) (hx : 0 ≤ x ∧ x ≤ s - 1) (hpo : 1 ≤ (allP p its bl).o) (hac : D.acts ≤ 600000) (hln : p.l ≤ 1800000000) :
  Calls Tryz.prog 169 #[.pointer (some ⟨v, 0, none⟩), .bool spare] w fun ex w' => ex = .returned (.int .i64 0) ∧
   ∃ F' A' c' H' e', Ws w' base v d g tp V F' b s l r q (turnD (allD D (2 + 2 * r + 4 * q + p.s * l) p its bl) r q l (allP p its bl) x) (shutOf (touchOf (grabOf (allT T p its) x) (allP p its bl).s (allP p its bl).l) (allP p its bl).s) (turnP (allP p its bl) x) [] [] A' c' H' e' ∧ (∀ y ∈ F', y ∈ F ∨ w.heap.size ≤ y) ∧ Kept (v :: V :: F) w w' ∧ (∀ j ∈ (Value.slice A' ([] : List It).length c').ownBlock.toList, j ∈ (Value.slice A its.length c).ownBlock.toList) ∧ (∀ j ∈ (Value.slice H' ([] : List UInt8).length e').ownBlock.toList, j ∈ (Value.slice H bl.length e).ownBlock.toList) := by
 have hok := h.geo.ok
 have hbd := h.geo.bounds
 unfold Ok at hok
 have hgV := h.gV
 have hsep := h.sep
 have HM := hide (mayTurn_any base v d g tp V F b s l r q D T p its bl A c H e spare w h)
 rw [if_neg hm] at HM
 have HEM := hide (fun W (hk : Kept [] w W) (hs : Ws W base v d g tp V F b s l r q D T p its bl A c H e) => emit_all base v d g tp V F b s l r q D T p its bl A c H e W hs (by omega) (by omega))
 have HSW := hide (show ∀ W, Kept [] w W → Ws W base v d g tp V F b s l r q D T p its bl A c H e from fun W k => ⟨h.at_.keep k, h.geo.kept k, h.vd.kept k (by simp), h.tab.keep k, own_keep h.own k (by simp), own_keep h.byt k (by simp), h.sep, h.gV, h.sepA, h.sepB, h.pl⟩)
 have hacs : (allD D (2 + 2 * r + 4 * q + p.s * l) p its bl).acts ≤ D.acts + 8 ∧ (allP p its bl).l ≤ p.l + 1 := by
  unfold allD allP
  by_cases hne : its = []
  ·simp [hne]; omega
  ·rw [if_neg hne, if_neg hne]
   have := emit_pl h.pl hne (by omega) (by omega) (by omega) (by omega) (by omega)
   exact ⟨this.2.2.1, by unfold emitP; dsimp only; omega⟩
 have HACS := hide hacs
 obtain ⟨D1, hD1⟩ : ∃ D1, allD D (2 + 2 * r + 4 * q + p.s * l) p its bl = D1 := ⟨_, rfl⟩
 obtain ⟨p1, hp1⟩ : ∃ p1, allP p its bl = p1 := ⟨_, rfl⟩
 obtain ⟨T1, hT1⟩ : ∃ T1, allT T p its = T1 := ⟨_, rfl⟩
 rw [hD1, hp1] at HACS
 rw [hD1, hp1, hT1] at HEM ⊢
 rw [hT1] at hn
 rw [hp1] at hpo
 have HN := hide hn
 have HLEN := hide hlen
 have HXX := hide hx
 have hvlt : v < w.heap.size := h.at_.lt
 have HPO := hide hpo
 have HBD := hide (show s ≤ 32 ∧ (0 ≤ r ∧ 0 ≤ q) ∧ (2 ≤ l ∧ l ≤ 1000) by omega)
 have HAC := hide (show D.acts ≤ 600000 ∧ p.l ≤ 1800000000 from ⟨hac, hln⟩)
 clear h hm hn hlen hx hD1 hp1 hT1 hok hbd hpo hac hln
 have h00 : ((0 : Int) != 0) = false := by decide
 go_enter Tryz.func169, Tryz.ntmps169
 go_wp2_with fail
 refine HM.out.mono ?_
 rintro e1 w1 ⟨rfl, hk1⟩
 have HK1 := hide hk1
 clear hk1
 go_wp2_with fail
 refine (HEM.out _ HK1.out (HSW.out _ HK1.out)).mono ?_
 rintro e1 w2 ⟨rfl, F1, A1, c1, H1, e1, hs1, hsub1, hk2, hoA, hoB⟩
 have HOA := hide hoA
 have HOB := hide hoB
 clear hoA hoB
 have HS1 := hide hs1
 have HF1 := hide (show ∀ y ∈ F1, y ∈ F ∨ w.heap.size ≤ y from fun y hy => (hsub1 y hy).imp id (fun hh => Nat.le_trans HK1.out.size hh))
 have HK2 := hide ((HK1.out.mono (S' := v :: V :: F) (by simp)).trans hk2 (fun i hi => .inl hi))
 obtain ⟨q0, q1, q2⟩ := hs1.at_.ptr
 obtain ⟨tpl, tn, tac, a, ta, tan, trd, tacs, tp1⟩ := turn_pl (x := x) hs1.pl HXX.out HBD.out.1 HBD.out.2.1 HBD.out.2.2 HPO.out (by have h1 := HACS.out; have h2 := HAC.out; omega) (by have h1 := HACS.out; have h2 := HAC.out; omega)
 have HTPL := hide tpl
 have HTA := hide ta
 have HTAN := hide tan
 have HTRD := hide trd
 have HTACS := hide tacs
 have HTP1 := hide tp1
 have hhd := head_ok tp1 HBD.out.1 HBD.out.2.1 (by have := HBD.out; omega)
 have HHD := hide hhd
 have HROK := hide (turn_ok (x := x) hs1.pl HXX.out HBD.out.1)
 clear hs1 hsub1 hk2 HEM HSW HM HK1 tpl tn tac ta tan trd tacs tp1 hhd
 go_wp2_with fail
 refine (us.take_yes HS1.out.tab spare x L0 HN.out HLEN.out).mono ?_
 rintro e1 w3 ⟨rfl, ht3, hk3⟩
 have HT3 := hide ht3
 have HK3 := hide hk3
 clear ht3 hk3 q0 q1 q2
 have hsv := HS1.out.sep
 have HAT3 := hide (HS1.out.at_.kept HK3.out (by simpa using hsv.2.2.2.2.1))
 have HG3 := hide (HS1.out.geo.kept HK3.out (by simpa using hgV.1))
 have HV3 := hide (HS1.out.vd.kept HK3.out (fun i hi hm => by simp at hm; subst hm; exact hsv.2.2.1 hi))
 obtain ⟨gb, hgb⟩ : ∃ gb, w3.heap.size = gb := ⟨_, rfl⟩
 obtain ⟨w4, hw4⟩ : ∃ w4, w3.alloc (.cells #[.int .i64 7, .int .i64 0, .int .i64 0, .int .i64 x] 84) = w4 := ⟨_, rfl⟩
 have k4 : Kept [] w3 w4 := by rw [← hw4]; exact (Kept.refl [] w3).alloc _
 have b4 : Blk w4 gb 84 #[.int .i64 7, .int .i64 0, .int .i64 0, .int .i64 x] := by rw [← hw4, ← hgb]; exact Blk.new w3 _ _
 have hit : Items w4 [] (some ⟨gb, 0, none⟩) [nextI x] := by
  have := Vals.lit w3 [] 84 #[.int .i64 7, .int .i64 0, .int .i64 0, .int .i64 x] (0, 0) [.int .i64 7, .int .i64 0, .int .i64 0, .int .i64 x] rfl (by simp)
  rw [hgb, hw4] at this
  exact this
 have HIT := hide hit
 have HK4 := hide k4
 have HW4 := hide hw4
 clear k4 b4 hit hw4
 go_wp2_with fail
 rw [HW4.out]
 have hls : 1 ≤ p1.o ∧ p1.o ≤ 1000 := ⟨HPO.out, by have h1 := HS1.out.pl.off; have h2 := HBD.out; omega⟩
 refine (lay_any v d g tp V _ c1 _ e1 p1 A1 H1 b s l r q F1 D1 (grabOf T1 x) (some ⟨gb, 0, none⟩) 1 1 [nextI x] none 0 0 [] a w4 (HAT3.out.keep HK4.out) (HG3.out.kept HK4.out) (HV3.out.kept HK4.out (by simp)) (HT3.out.keep HK4.out) HS1.out.pl.reads ⟨hsv.1, hsv.2.1, hsv.2.2.1, hsv.2.2.2.1, hsv.2.2.2.2.1⟩ HIT.out rfl (fun i u hu => by simp at hu) rfl (by omega) HS1.out.pl.place hls HTA.out HTAN.out (by have h1 := HACS.out; have h2 := HAC.out; omega) HROK.out).mono ?_
 rintro e2 w5 ⟨rfl, F2, l1, l2, l3, l4⟩
 have l1' : VD w5 F2 d (putk D1 (a : Int) (turnR p1 x).bytes 1) := l1
 have HV5 := hide l1'
 have HT5 := hide l2
 have HF5 := hide (show ∀ y ∈ F2, y ∈ F1 ∨ w3.heap.size ≤ y from fun y hy => (l3 y hy).imp id (fun hh => Nat.le_trans HK4.out.size hh))
 have HK35 := hide ((HK4.out.mono (S' := V :: F1) (by simp)).trans l4 (fun i hi => .inl hi))
 have hvF1 : v ∉ V :: F1 := fun hm => (List.mem_cons.1 hm).elim (fun ee => hsv.2.2.2.2.1 ee) hsv.1
 have hgF1 : g ∉ V :: F1 := fun hm => (List.mem_cons.1 hm).elim (fun ee => hgV.1 ee) hsv.2.2.2.1
 have HAT5 := hide (HAT3.out.kept HK35.out hvF1)
 have HG5 := hide (HG3.out.kept HK35.out hgF1)
 clear l1 l1' l2 l3 l4 HAT3 HG3 HV3 HT3 HIT HK4 HW4
 unfold Ps.val
 obtain ⟨b9, hb9⟩ : ∃ b9, w5.heap.size = b9 := ⟨_, rfl⟩
 obtain ⟨w6, hw6⟩ : ∃ w6, w5.alloc (.cells #[.int .i64 p1.s, .int .i64 (p1.o + (1 + ((0 : Nat) : Int))), .int .i64 (p1.l + 1), .int .i64 ((turnR p1 x).sum : Int), .int .i64 p1.m] 24) = w6 := ⟨_, rfl⟩
 have k6 : Kept [] w5 w6 := by rw [← hw6]; exact (Kept.refl [] w5).alloc _
 have b6 : Blk w6 b9 24 #[.int .i64 p1.s, .int .i64 (p1.o + (1 + ((0 : Nat) : Int))), .int .i64 (p1.l + 1), .int .i64 ((turnR p1 x).sum : Int), .int .i64 p1.m] := by rw [← hw6, ← hb9]; exact Blk.new w5 _ _
 have HK6 := hide k6
 have HB6 := hide b6
 have HW6 := hide hw6
 have hvl5 := HAT5.out.lt
 have htl5 : tp < w5.heap.size := HT5.out.tab.lt
 have hVl5 : V < w5.heap.size := HT5.out.seg.lt
 have hgl5 : g < w5.heap.size := HG5.out.lt
 have HALL := hide (show ∀ W, Kept [V] w6 W → (fun W => W.cell? ⟨v, 2, none⟩ = some (.pointer (some ⟨tp, 0, none⟩)) ∧ W.cell? ⟨v, 3, none⟩ = some (.int .i64 p1.s)) W from fun W k => by
  have h1 := (HAT5.out.keep HK6.out).kept k (by have := hsv.2.2.2.2.1; simpa using this)
  exact ⟨h1.ptr.2.2, h1.place.1⟩)
 clear k6 b6 hw6
 go_wp2
 change Code.wp _ _ _ _ (w5.alloc (.cells #[.int .i64 p1.s, .int .i64 (p1.o + (1 + ((0 : Nat) : Int))), .int .i64 (p1.l + 1), .int .i64 ((turnR p1 x).sum : Int), .int .i64 p1.m] 24))
 rw [HW6.out]
 have HD6 := hide ((Kept.refl [] w6).drew)
 refine wp_region_noPanic ?_
 refine wp_region_held_drew (S := fun W => W.cell? ⟨v, 2, none⟩ = some (.pointer (some ⟨tp, 0, none⟩)) ∧ W.cell? ⟨v, 3, none⟩ = some (.int .i64 p1.s)) (by kernel_rfl) (by exact HALL.out _ (HD6.out.mono (by simp))) (fun hHeld => ?_)
 refine tK 0 43 rfl ?_
 try simp only [Act.put, pA, pB, pC]
 refine tK 1 44 rfl ?_
 try simp only [Act.put, pA, pB, pC]
 refine tK 2 45 rfl ?_
 try simp only [Act.put, pA, pB, pC]
 refine tK 3 46 rfl ?_
 try simp only [Act.put, pA, pB, pC]
 refine tK 4 47 rfl ?_
 try simp only [Act.put, pA, pB, pC]
 refine tK 5 48 rfl ?_
 try simp only [Act.put, pA, pB, pC]
 refine tK 6 49 rfl ?_
 try simp only [Act.put, pA, pB, pC]
 refine tK 7 50 rfl ?_
 try simp only [Act.put, pA, pB, pC]
 refine tK 8 51 rfl ?_
 try simp only [Act.put, pA, pB, pC]
 refine hO 9 (some 52) rfl fun K hK => ?_
 go_simp
 refine (us.shut_any ((HT5.out.keep HK6.out).keep HD6.out) p1.s).mono ?_
 rintro e1 w7 ⟨rfl, ht7, hk7⟩
 have HT7 := hide ht7
 have HK7 := hide ((HD6.out.mono (S' := [V]) (by simp)).trans hk7 (fun i hi => .inl hi))
 refine hK.out _ _ (by exact HALL.out _ HK7.out) (fun hHeld => ?_)
 clear hK K
 try simp only [Act.put, pA, pB, pC]
 refine wpAnyH_done (by kernel_rfl) ?_ _
 refine NoPanic.normal ?_
 clear hHeld
 have hVb : b9 ∉ [V] := by simp; omega
 have hb7 := HK7.out.blk HB6.out hVb
 obtain ⟨z0, z1, z2, z3, z4⟩ := cell5 hb7
 have fz := hb7.frozen
 have HB7 := hide hb7
 have HAT7 := hide ((HAT5.out.keep HK6.out).kept HK7.out (by have := hsv.2.2.2.2.1; simpa using this))
 have HG7 := hide ((HG5.out.kept HK6.out).kept HK7.out (by simpa using hgV.1))
 have hVF2 : V ∉ F2 := fun hm => (HF5.out V hm).elim hsv.2.2.1 (fun hh => by have := HS1.out.tab.seg.lt; have h2 := HK3.out.size; omega)
 have HV7 := hide ((HV5.out.kept HK6.out (by simp)).kept HK7.out (fun i hi hm => by simp at hm; subst hm; exact hVF2 hi))
 have hf9 : ∀ i ∈ F2, i < b9 := fun i hi => by have := HV5.out.lt i hi; omega
 clear hb7 HAT5 HG5 HT5 HV5 HW6
 go_wp2_with fail
 have hk8 : Kept [b9] w7 ((w7.setCell ⟨b9, 0, none⟩ (.int .i64 x)).setCell ⟨b9, 1, none⟩ (.int .i64 1)) := ((Kept.refl [b9] w7).set_ (b := b9) (.inl (by simp)) 0 (.int .i64 x)).set_ (b := b9) (.inl (by simp)) 1 (.int .i64 1)
 have hb8 := Blk.set_ (Blk.set_ HB7.out 0 (.int .i64 x)) 1 (.int .i64 1)
 generalize ((w7.setCell ⟨b9, 0, none⟩ (.int .i64 x)).setCell ⟨b9, 1, none⟩ (.int .i64 1)) = w8 at hk8 hb8 ⊢
 have HK8 := hide hk8
 have HB8 := hide (show Blk w8 b9 24 #[.int .i64 x, .int .i64 1, .int .i64 (p1.l + 1), .int .i64 ((turnR p1 x).sum : Int), .int .i64 p1.m] from hb8)
 have hn9 : v ∉ [b9] ∧ g ∉ [b9] ∧ tp ∉ [b9] ∧ V ∉ [b9] := by simp; omega
 have hvF2 : v ∉ F2 := fun hm => (HF5.out v hm).elim hsv.1 (fun hh => by have := HS1.out.at_.lt; have h2 := HK3.out.size; omega)
 have HAT8 := hide (HAT7.out.kept hk8 hn9.1)
 have HG8 := hide (HG7.out.kept hk8 hn9.2.1)
 have HT8 := hide (HT7.out.kept hk8 hn9.2.2.1 hn9.2.2.2)
 have HV8 := hide (HV7.out.kept hk8 (fun i hi hm => by simp at hm; subst hm; have := hf9 i hi; omega))
 clear hk8 hb8 z0 z1 z2 z3 z4 fz HAT7 HG7 HT7 HV7 HB7
 refine (begin_any v d g tp _ _ _ _ p1 (turnP p1 x) _ _ b s l r q F2 _ _ HAT8.out HG8.out HV8.out hvF2 HXX.out (by have h1 := HTACS.out; have h2 := HACS.out; have h3 := HAC.out; omega)).mono ?_
 rw [HHD.out.1, HHD.out.2.1]
 rintro e2 w9 ⟨rfl, F3, t1, t2, t3⟩
 have HV9 := hide t1
 have HF9 := hide t2
 have HK9 := hide t3
 have hb9n : b9 ∉ F2 := fun hm => by have := hf9 b9 hm; omega
 have hb9' := t3.blk HB8.out hb9n
 obtain ⟨z0, z1, z2, z3, z4⟩ := cell5 hb9'
 have hat9 := HAT8.out.kept t3 hvF2
 have HAT9 := hide hat9
 obtain ⟨j3, j4, j5, j6, j7⟩ := hat9.place
 have fz := Blk.frozen hat9
 clear t1 t2 t3 hb9' hat9
 go_wp2
 have hat9 := HAT9.out
 unfold WAt at hat9
 have hx9 : WAt (((((w9.setCell ⟨v, 3, none⟩ (.int .i64 (x))).setCell ⟨v, 4, none⟩ (.int .i64 (1))).setCell ⟨v, 5, none⟩ (.int .i64 (p1.l + 1))).setCell ⟨v, 6, none⟩ (.int .i64 (((turnR p1 x).sum : Int)))).setCell ⟨v, 7, none⟩ (.int .i64 (p1.m))) v d g tp (turnP p1 x) A1 ([] : List It).length c1 H1 ([] : List UInt8).length e1 := (Blk.set_ (Blk.set_ (Blk.set_ (Blk.set_ (Blk.set_ hat9 3 (.int .i64 (x))) 4 (.int .i64 (1))) 5 (.int .i64 (p1.l + 1))) 6 (.int .i64 (((turnR p1 x).sum : Int)))) 7 (.int .i64 (p1.m)))
 have hk10 : Kept [v] w9 (((((w9.setCell ⟨v, 3, none⟩ (.int .i64 (x))).setCell ⟨v, 4, none⟩ (.int .i64 (1))).setCell ⟨v, 5, none⟩ (.int .i64 (p1.l + 1))).setCell ⟨v, 6, none⟩ (.int .i64 (((turnR p1 x).sum : Int)))).setCell ⟨v, 7, none⟩ (.int .i64 (p1.m))) := ((((((Kept.refl [v] w9).set_ (b := v) (.inl (by simp)) 3 (.int .i64 (x))).set_ (b := v) (.inl (by simp)) 4 (.int .i64 (1))).set_ (b := v) (.inl (by simp)) 5 (.int .i64 (p1.l + 1))).set_ (b := v) (.inl (by simp)) 6 (.int .i64 (((turnR p1 x).sum : Int)))).set_ (b := v) (.inl (by simp)) 7 (.int .i64 (p1.m)))
 generalize (((((w9.setCell ⟨v, 3, none⟩ (.int .i64 (x))).setCell ⟨v, 4, none⟩ (.int .i64 (1))).setCell ⟨v, 5, none⟩ (.int .i64 (p1.l + 1))).setCell ⟨v, 6, none⟩ (.int .i64 (((turnR p1 x).sum : Int)))).setCell ⟨v, 7, none⟩ (.int .i64 (p1.m))) = wX at hx9 hk10 ⊢
 go_ret
 have hvF3 : v ∉ F3 := fun hm => (HF9.out v hm).elim hvF2 (fun hh => by have := HAT8.out.lt; omega)
 have hw38 : w3.heap.size ≤ w5.heap.size := HK35.out.size
 have hw78 : w5.heap.size ≤ w8.heap.size := by have h1 := HK7.out.size; have h2 := HK8.out.size; have h3 := HB8.out.lt; omega
 have hw23 := HK3.out.size
 have hall : ∀ i ∈ F3, i ∈ F1 ∨ w3.heap.size ≤ i := fun i hi => (HF9.out i hi).elim (fun hh => HF5.out i hh) (fun hh => .inr (by omega))
 have hgF3 : g ∉ F3 := fun hm => (hall g hm).elim hsv.2.2.2.1 (fun hh => by have := HS1.out.geo.lt; omega)
 have htF3 : tp ∉ F3 := fun hm => (hall tp hm).elim hsv.2.1 (fun hh => by have := HS1.out.tab.tab.lt; omega)
 have hVF3 : V ∉ F3 := fun hm => (hall V hm).elim hsv.2.2.1 (fun hh => by have := HS1.out.tab.seg.lt; omega)
 have hgF2 : g ∉ F2 := fun hm => (HF5.out g hm).elim hsv.2.2.2.1 (fun hh => by have := HS1.out.geo.lt; omega)
 have htF2 : tp ∉ F2 := fun hm => (HF5.out tp hm).elim hsv.2.1 (fun hh => by have := HS1.out.tab.tab.lt; omega)
 have hw02 := HK2.out.size
 have hF1w : ∀ i ∈ F1, i ∈ v :: V :: F ∨ w.heap.size ≤ i := fun i hi => (HF1.out i hi).imp (fun hh => by simp [hh]) id
 have d1 := HK2.out.trans HK3.out (fun i hi => .inl (by simp at hi; simp [hi]))
 have d2 := d1.trans HK35.out (fun i hi => (List.mem_cons.1 hi).elim (fun ee => .inl (by simp [ee])) (fun hh => hF1w i hh))
 have d3 := (d2.trans HK6.out (by simp)).trans HK7.out (fun i hi => .inl (by simp at hi; simp [hi]))
 have d4 := d3.trans HK8.out (fun i hi => .inr (by simp at hi; omega))
 have d5 := d4.trans HK9.out (fun i hi => (HF5.out i hi).elim (fun hh => hF1w i hh) (fun hh => .inr (by omega)))
 have d6 := d5.trans hk10 (fun i hi => .inl (by simp at hi; simp [hi]))
 have hown : ∀ {et : TypeId} {sz nn : Nat} {vv : Value} {xs : List Value}, w2.ownsRow base et sz vv nn xs → (∀ i ∈ vv.ownBlock.toList, i ∉ F1 ∧ i ≠ v ∧ i ≠ V ∧ i ≠ tp ∧ i ≠ g) → wX.ownsRow base et sz vv nn xs ∧ ∀ i ∈ vv.ownBlock.toList, i ∉ F3 ∧ i ≠ v ∧ i ≠ V ∧ i ≠ tp ∧ i ≠ g := fun ho hse => by
  have hlt := fun i hi => (own_blk ho i hi).2.1
  have o3 := own_keep ho HK3.out (fun i hi hm => (hse i hm).2.2.1 (by simpa using hi))
  have o5 := own_keep o3 HK35.out (fun i hi hm => (List.mem_cons.1 hi).elim (hse i hm).2.2.1 (hse i hm).1)
  have o7 := own_keep (own_keep o5 HK6.out (by simp)) HK7.out (fun i hi hm => (hse i hm).2.2.1 (by simpa using hi))
  have o8 := own_keep o7 HK8.out (fun i hi hm => by have := hlt i hm; simp at hi; omega)
  have o9 := own_keep o8 HK9.out (fun i hi hm => (HF5.out i hi).elim (hse i hm).1 (fun hh => by have := hlt i hm; omega))
  exact ⟨own_keep o9 hk10 (fun i hi hm => (hse i hm).2.1 (by simpa using hi)), fun i hi => ⟨fun hm => (hall i hm).elim (hse i hi).1 (fun hh => by have := hlt i hi; omega), (hse i hi).2⟩⟩
 obtain ⟨oA, sA⟩ := hown HS1.out.own HS1.out.sepA
 obtain ⟨oB, sB⟩ := hown HS1.out.byt HS1.out.sepB
 have hDe : (Dk.write (putk D1 (a : Int) (turnR p1 x).bytes 1) (2 + 2 * r + 4 * q + (turnP p1 x).s * l) (headAt (turnP p1 x)).bytes).2 = turnD D1 r q l p1 x := by
  unfold turnD headD
  rw [HTA.out]
  rfl
 have hVD := HV9.out
 rw [hDe] at hVD
 refine ⟨rfl, F3, A1, c1, H1, e1, ⟨hx9, (HG8.out.kept HK9.out hgF2).kept hk10 (by simpa using fun ee => hsv.2.2.2.2.2.2 ee.symm), hVD.kept hk10 (fun i hi hm => by simp at hm; subst hm; exact hvF3 hi), (HT8.out.kept HK9.out htF2 hVF2).kept hk10 (by simpa using fun ee => hsv.2.2.2.2.2.1 ee.symm) (by simpa using fun ee => hsv.2.2.2.2.1 ee.symm), oA, oB, ⟨hvF3, htF3, hVF3, hgF3, hsv.2.2.2.2⟩, HS1.out.gV, sA, sB, HTPL.out⟩, fun i hi => (hall i hi).elim (fun hh => HF1.out i hh) (fun hh => .inr (by omega)), d6, HOA.out, HOB.out⟩
end Go.Proofs.YtolbalafhfpjbaaGreat.wr
