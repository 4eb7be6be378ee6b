import Derived.Test.YtolbalafhfpjbaaGreatPWriterLay
import Derived.Test.YtolbalafhfpjbaaGreatPOrders
import Derived.Deep.CutRange
import Derived.Deep.CutBlock
namespace Go.Proofs.YtolbalafhfpjbaaGreat.wr
set_option linter.unusedSimpArgs false
set_option linter.unusedVariables false
open Go.RowKit mem base disk owns geom
open sc (Ps Seal sealed Reads putk)
open us (Rw inState TAt)
open item (It Items valsOf allMay)
open record (Rc RcAt cell5 put5 put5_kept)
structure Pl (s l r q : Int) (p : Ps) (its : List It) (bl : List UInt8) (D : Dk) : Prop where
 place : 0 ≤ p.s ∧ p.s ≤ s - 1
 off : 0 ≤ p.o ∧ p.o ≤ l - 1
 lsn : 1 ≤ p.l ∧ p.l ≤ 2000000000
 prev : 0 ≤ p.v ∧ p.v ≤ 4294967295
 mount : 1 ≤ p.m ∧ p.m ≤ 2147483647
 may : allMay its ∧ its.length ≤ 6
 cnt : bl.length = 64 * record.count its
 room : its ≠ [] → offOf p + 1 + record.count its ≤ l - 1
 reads : Reads D
 fits : 2 + 2 * r + 4 * q + s * l ≤ D.n
 acts : D.acts ≤ 800000
structure Ws (W : World) (base v d g tp V : Nat) (F : List Nat) (b s l r q : Int) (D : Dk) (T : List Rw) (p : Ps) (its : List It) (bl : List UInt8) (A : Option Addr) (c : Nat) (H : Option Addr) (e : Nat) : Prop where
 at_ : WAt W v d g tp p A its.length c H bl.length e
 geo : GAt W g b s l r q
 vd : VD W F d D
 tab : TAt W tp V b s l r q T
 own : W.ownsRow base 84 4 (.slice A its.length c) its.length (valsOf its)
 byt : W.ownsRow base 5 1 (.slice H bl.length e) bl.length (bl.map B)
 sep : v ∉ F ∧ tp ∉ F ∧ V ∉ F ∧ g ∉ F ∧ v ≠ V ∧ v ≠ tp ∧ v ≠ g
 gV : g ≠ V ∧ g ≠ tp
 sepA : ∀ i ∈ (Value.slice A its.length c).ownBlock.toList, i ∉ F ∧ i ≠ v ∧ i ≠ V ∧ i ≠ tp ∧ i ≠ g
 sepB : ∀ i ∈ (Value.slice H bl.length e).ownBlock.toList, i ∉ F ∧ i ≠ v ∧ i ≠ V ∧ i ≠ tp ∧ i ≠ g
 pl : Pl s l r q p its bl D
theorem Pl.bds {s l r q : Int} {p : Ps} {its : List It} {bl : List UInt8} {D : Dk} (h : Pl s l r q p its bl D) : record.count its ≤ 6 := Nat.le_trans (record.count_le its) h.may.2
def headD (D : Dk) (x : Int) (p : Ps) : Dk := (D.write x (headAt p).bytes).2
theorem head_ok {s l r q : Int} {p : Ps} {its : List It} {bl : List UInt8} {D : Dk} (h : Pl s l r q p its bl D) (hs : s ≤ 32) (h0 : 0 ≤ r ∧ 0 ≤ q) (hl : 1 ≤ l) :
  (hd.encode (headAt p)).1 = (headAt p).bytes ∧ (D.write (2 + 2 * r + 4 * q + p.s * l) (headAt p).bytes).1 = 0 ∧ Reads (headD D (2 + 2 * r + 4 * q + p.s * l) p) ∧ (headD D (2 + 2 * r + 4 * q + p.s * l) p).n = D.n ∧ (headD D (2 + 2 * r + 4 * q + p.s * l) p).acts = D.acts + 1 := by
 have hm : (headAt p).may = true := (hd.Hd.may_iff _).2 (by
  have h1 := h.place; have h2 := h.mount; have h3 := h.lsn; have h4 := h.prev
  unfold headAt
  dsimp only
  omega)
 have h1 : 0 ≤ p.s * l := Int.mul_nonneg h.place.1 (by omega)
 have h2 : p.s * l ≤ (s - 1) * l := Int.mul_le_mul_of_nonneg_right h.place.2 (by omega)
 rw [Int.sub_mul, Int.one_mul] at h2
 have h3 := h.fits
 obtain ⟨a, ha⟩ : ∃ a : Nat, 2 + 2 * r + 4 * q + p.s * l = (a : Int) := ⟨(2 + 2 * r + 4 * q + p.s * l).toNat, by omega⟩
 rw [ha]
 obtain ⟨e1, e2, e3, e4, _⟩ := sc.write_reads h.reads a (headAt p).bytes (by omega) (hd.Hd.bytes_len _)
 exact ⟨by unfold hd.encode; rw [if_pos hm], e1, e2, e3, e4⟩
def atOf (p : Ps) : Ps := ⟨p.s, offOf p, p.l, p.v, p.m⟩
def preD (D : Dk) (x : Int) (p : Ps) : Dk := if p.o = 0 then headD D x p else D
def emitP (p : Ps) (its : List It) (bl : List UInt8) : Ps := ⟨p.s, offOf p + (1 + (record.count its : Int)), p.l + 1, ((recAt (atOf p) its bl (record.count its)).sum : Int), p.m⟩
def emitD (D : Dk) (x : Int) (p : Ps) (its : List It) (bl : List UInt8) : Dk := putk (preD D x p) (x + offOf p) (recAt (atOf p) its bl (record.count its)).bytes (1 + record.count its)
theorem putk_reads {D : Dk} (h : Reads D) (a : Nat) (bs : List UInt8) (m : Nat) (ha : a + m ≤ D.n) (hl : bs.length = 64 * m) : Reads (putk D (a : Int) bs m) ∧ (putk D (a : Int) bs m).n = D.n ∧ (putk D (a : Int) bs m).acts = D.acts + m := by
 obtain ⟨h1, h2, h3, _, h5, _, _⟩ := sc.putk_live h.live h.ok a bs m ha hl m (Nat.le_refl _)
 have hn : (putk D (a : Int) bs m).n = D.n := by unfold Dk.n; rw [h3]
 exact ⟨⟨h2, h1, fun i hi => by rw [h3]; exact h.whole i (by omega)⟩, hn, h5⟩
theorem rec_ok {s l r q : Int} {p : Ps} {its : List It} {bl : List UInt8} {D : Dk} (h : Pl s l r q p its bl D) (hne : its ≠ []) : (recAt (atOf p) its bl (record.count its)).ok := by
 have h1 := h.lsn; have h2 := h.mount; have h3 := h.prev
 refine ⟨by unfold recAt atOf; dsimp only; omega, by unfold recAt atOf; dsimp only; omega, by unfold recAt atOf; dsimp only; omega, ⟨?_, h.may.2⟩, h.may.1, (blksOf_len _ _).symm, fun b hb => ?_⟩
 ·exact Nat.pos_of_ne_zero (fun h0 => hne (List.eq_nil_of_length_eq_zero h0))
 ·unfold recAt blksOf at hb
  obtain ⟨k, hk, rfl⟩ := List.mem_map.1 hb
  exact disk.sec_length bl k _ h.cnt (List.mem_range.1 hk)
theorem emit_pl {s l r q : Int} {p : Ps} {its : List It} {bl : List UInt8} {D : Dk} (h : Pl s l r q p its bl D) (hne : its ≠ []) (hs : s ≤ 32) (h0 : 0 ≤ r ∧ 0 ≤ q) (hl : 1 ≤ l ∧ l ≤ 1000) (hac : D.acts ≤ 700000) (hln : p.l ≤ 1900000000) :
  Pl s l r q (emitP p its bl) [] [] (emitD D (2 + 2 * r + 4 * q + p.s * l) p its bl) ∧ (emitD D (2 + 2 * r + 4 * q + p.s * l) p its bl).n = D.n ∧ (emitD D (2 + 2 * r + 4 * q + p.s * l) p its bl).acts ≤ D.acts + 8 ∧
   Reads (preD D (2 + 2 * r + 4 * q + p.s * l) p) ∧ (preD D (2 + 2 * r + 4 * q + p.s * l) p).n = D.n ∧ (preD D (2 + 2 * r + 4 * q + p.s * l) p).acts ≤ D.acts + 1 := by
 have hh := head_ok h hs h0 hl.1
 have hof := offOf_le h.off.1
 have hrm := h.room hne
 have h6 := h.bds
 have h1 : 0 ≤ p.s * l := Int.mul_nonneg h.place.1 (by omega)
 have h2 : p.s * l ≤ (s - 1) * l := Int.mul_le_mul_of_nonneg_right h.place.2 (by omega)
 rw [Int.sub_mul, Int.one_mul] at h2
 have h3 := h.fits
 obtain ⟨x, hx⟩ : ∃ x, 2 + 2 * r + 4 * q + p.s * l = x := ⟨_, rfl⟩
 rw [hx] at hh ⊢
 have hpre : Reads (preD D x p) ∧ (preD D x p).n = D.n ∧ (preD D x p).acts ≤ D.acts + 1 := by
  unfold preD
  split
  ·exact ⟨hh.2.2.1, hh.2.2.2.1, by rw [hh.2.2.2.2]; exact Nat.le_refl _⟩
  ·exact ⟨h.reads, rfl, by omega⟩
 obtain ⟨a, ha⟩ : ∃ a : Nat, x + offOf p = (a : Int) := ⟨(x + offOf p).toNat, by omega⟩
 have hb := Rc.bytes_len (rec_ok h hne)
 rw [show (recAt (atOf p) its bl (record.count its)).bks.length = record.count its from blksOf_len _ _] at hb
 obtain ⟨g1, g2, g3⟩ := putk_reads hpre.1 a _ (1 + record.count its) (by rw [hpre.2.1]; omega) hb
 have he : emitD D x p its bl = putk (preD D x p) (a : Int) (recAt (atOf p) its bl (record.count its)).bytes (1 + record.count its) := by unfold emitD; rw [ha]
 have hsum : (recAt (atOf p) its bl (record.count its)).sum ≤ 4294967295 := by first | exact crc.more_le _ _ | exact crcMath.more_le _ _
 refine ⟨⟨h.place, ?_, ?_, ?_, h.mount, ⟨by intro i hi; simp at hi, by simp⟩, by simp [record.count], fun hn => absurd rfl hn, by rw [he]; exact g1, by rw [he, g2, hpre.2.1]; exact h3, by rw [he, g3]; omega⟩, by rw [he, g2, hpre.2.1], by rw [he, g3]; omega, hpre⟩
 ·unfold emitP; dsimp only; omega
 ·have := h.lsn; unfold emitP; dsimp only; omega
 ·unfold emitP; dsimp only; omega
structure Em (w1 W : World) (v d tp V : Nat) (F F2 : List Nat) (b s l r q : Int) (D : Dk) (T : List Rw) (o : Option Nat) : Prop where
 vd : VD W F2 d D
 tab : TAt W tp V b s l r q T
 sub : ∀ x ∈ F2, x ∈ F ∨ w1.heap.size ≤ x
 kept : Kept (V :: F) w1 W
 bx : ∀ i, o = some i → Blk W i 24 #[.int .i64 0, .int .i64 0, .int .i64 0, .int .i64 0, .int .i64 0] ∧ i ∉ F2 ∧ w1.heap.size ≤ i
theorem Em.a {w1 W : World} {v d tp V : Nat} {F F2 : List Nat} {b s l r q : Int} {D : Dk} {T : List Rw} (h : Em w1 W v d tp V F F2 b s l r q D T none) : Em w1 (W.alloc (.cells #[.int .i64 0, .int .i64 0, .int .i64 0, .int .i64 0, .int .i64 0] 24)) v d tp V F F2 b s l r q D T (some W.heap.size) := by
 have k := (Kept.refl [] W).alloc (.cells #[.int .i64 0, .int .i64 0, .int .i64 0, .int .i64 0, .int .i64 0] 24)
 refine ⟨h.vd.kept k (by simp), h.tab.keep k, h.sub, h.kept.trans k (by simp), fun i hi => ?_⟩
 injection hi with hi
 subst hi
 exact ⟨Blk.new W _ _, fun hm => by have := h.vd.lt _ hm; omega, h.kept.size⟩
theorem Em.c {w1 W W' : World} {v d tp V : Nat} {F F2 F3 : List Nat} {b s l r q : Int} {D D' : Dk} {T T' : List Rw} {o : Option Nat} (h : Em w1 W v d tp V F F2 b s l r q D T o) (h1 : VD W' F3 d D') (h2 : TAt W' tp V b s l r q T') (h3 : ∀ x ∈ F3, x ∈ F2 ∨ W.heap.size ≤ x) (k : Kept (V :: F2) W W') (hV : V < w1.heap.size ∧ tp < w1.heap.size) : Em w1 W' v d tp V F F3 b s l r q D' T' o := by
 have hs := h.kept.size
 refine ⟨h1, h2, fun x hx => (h3 x hx).elim (fun g => h.sub x g) (fun g => .inr (by omega)), h.kept.trans k (fun i hi => (List.mem_cons.1 hi).elim (fun e => .inl (by simp [e])) (fun g => (h.sub i g).imp (fun g => by simp [g]) id)), fun i hi => ?_⟩
 obtain ⟨g1, g2, g3⟩ := h.bx i hi
 exact ⟨k.blk g1 (fun hm => (List.mem_cons.1 hm).elim (fun e => by have := hV.1; omega) g2), fun hm => (h3 i hm).elim g2 (fun g => by have := g1.lt; omega), g3⟩
theorem Em.put {w1 W W' : World} {v d tp V i : Nat} {F F2 : List Nat} {b s l r q : Int} {D : Dk} {T : List Rw} {o : Option Nat} (h : Em w1 W v d tp V F F2 b s l r q D T o) (k : Kept [i] W W') (hi : i ∉ F2 ∧ w1.heap.size ≤ i) (hV : V < w1.heap.size ∧ tp < w1.heap.size) : Em w1 W' v d tp V F F2 b s l r q D T none := by
 exact ⟨h.vd.kept k (fun x hx hm => by simp at hm; subst hm; exact hi.1 hx), h.tab.kept k (by have := hV.2; simp; omega) (by have := hV.1; simp; omega), h.sub, h.kept.trans k (fun x hx => by simp at hx; subst hx; exact .inr hi.2), by simp⟩
theorem Em.ex {w1 W : World} {v d tp V : Nat} {F F2 : List Nat} {b s l r q : Int} {D : Dk} {T : List Rw} {o : Option Nat} (h : Em w1 W v d tp V F F2 b s l r q D T o) : ∃ wm, W = wm ∧ Em w1 wm v d tp V F F2 b s l r q D T o := ⟨W, rfl, h⟩
theorem emit_none (base v d g tp V : Nat) (F : List Nat) (b s l r q : Int) (D : Dk) (T : List Rw) (p : Ps) (bl : List UInt8) (A : Option Addr) (c : Nat) (H : Option Addr) (e : Nat) (w : World) (h : Ws w base v d g tp V F b s l r q D T p [] bl A c H e) :
  Calls Tryz.prog 44 #[.pointer (some ⟨v, 0, none⟩)] w fun ex w' => ex = .returned (.int .i64 0) ∧ w = w' := by
 have HS := hide h
 obtain ⟨q0, q1, q2⟩ := h.at_.ptr
 obtain ⟨q8, q9⟩ := h.at_.rows
 have hoff := h.pl.reads.live.off
 have HO := hide hoff
 clear h hoff
 go_enter Tryz.func44, Tryz.ntmps44
 go_wp2_with fail
 refine (off_at d F D _ HS.out.vd).mono ?_
 rintro e1 w1 ⟨rfl, rfl⟩
 rw [HO.out]
 go_wp2
 go_ret
 exact ⟨rfl, rfl⟩
set_option maxRecDepth 100000 in
set_option maxHeartbeats 4000000 in
theorem emit_any (base v d g tp V : Nat) (F : List Nat) (b s l r q : Int) (D : Dk) (T : List Rw) (p : Ps) (its : List It) (bl : List UInt8) (A : Option Addr) (c : Nat) (H : Option Addr) (e : Nat) (w : World) (h : Ws w base v d g tp V F b s l r q D T p its bl A c H e) (hne : its ≠ []) (hac : D.acts ≤ 700000) (hln : p.l ≤ 1900000000) :
  Calls Tryz.prog 44 #[.pointer (some ⟨v, 0, none⟩)] w fun ex w' => ex = .returned (.int .i64 0) ∧
   ∃ F', Ws w' base v d g tp V F' b s l r q (emitD D (2 + 2 * r + 4 * q + p.s * l) p its bl) (us.touchOf T p.s p.l) (emitP p its bl) [] [] none 0 none 0 ∧ (∀ x ∈ F', x ∈ F ∨ w.heap.size ≤ x) ∧ Kept (v :: V :: F) w w' := by
 have hok := h.geo.ok
 have hbd := h.geo.bounds
 unfold Ok at hok
 obtain ⟨hpl2, hn2, ha2, hrd, hnd, had⟩ := emit_pl h.pl hne (by omega) (by omega) (by omega) hac hln
 have hrec := rec_ok h.pl hne
 have hpos : its.length ≠ 0 := fun h0 => hne (List.eq_nil_of_length_eq_zero h0)
 have hl0 : ((its.length : Int) == 0) = false := beq_eq_false_iff_ne.2 (by omega)
 have hrm := h.pl.room hne
 have hof := offOf_le h.pl.off.1
 have h6 := h.pl.bds
 have hhd := head_ok h.pl (by omega) (by omega) (by omega)
 have hsg := segBd h.geo h.pl.place
 have hft := h.pl.fits
 obtain ⟨x, hx⟩ : ∃ x, 2 + 2 * r + 4 * q + p.s * l = x := ⟨_, rfl⟩
 rw [hx] at hpl2 hn2 ha2 hrd hnd had hhd hsg ⊢
 obtain ⟨a, ha⟩ : ∃ a : Nat, x + offOf p = (a : Int) := ⟨(x + offOf p).toNat, by omega⟩
 have HS := hide h
 have HX := sealed hx
 have HPL2 := hide hpl2
 have HRD := hide hrd
 have HND := hide hnd
 have HAD := hide had
 have HREC := hide hrec
 have HHD := hide hhd
 have HA := hide ha
 have HROOM := hide (show a + (1 + record.count its) ≤ D.n by omega)
 have HAC := hide hac
 have HO := hide h.pl.reads.live.off
 obtain ⟨q0, q1, q2⟩ := h.at_.ptr
 obtain ⟨q8, q9⟩ := h.at_.rows
 obtain ⟨q3, q4, q5, q6, q7⟩ := h.at_.place
 have fz := Blk.frozen h.at_
 clear h hpl2 hrd hnd had hrec hhd ha hok hbd hsg hft hac hx
 go_enter Tryz.func44, Tryz.ntmps44
 go_wp2_with fail
 refine (off_at d F D _ HS.out.vd).mono ?_
 rintro e1 w1 ⟨rfl, rfl⟩
 rw [HO.out]
 go_upto_if 27 with fail
 go_cut [] from 22 to 42 (fun wx => ∃ F1, Hid (VD wx F1 d (preD D x p)) ∧ Hid (∀ i ∈ F1, i ∈ F ∨ w.heap.size ≤ i) ∧ Hid (WAt wx v d g tp (atOf p) A its.length c H bl.length e) ∧ Hid (Kept (v :: F) w wx))
 case first =>
  by_cases hp0 : p.o = 0
  ·have ho1 : offOf p = 1 := by unfold offOf; rw [if_pos (by omega)]
   have hq0 : (p.o == 0) = true := beq_iff_eq.2 hp0
   have hpre : preD D x p = headD D x p := if_pos hp0
   have HPRE := hide hpre
   have hx0 : ((0 : Int) != 0) = false := by decide
   have HO1 := hide ho1
   clear hpre hp0 ho1
   go_wp2_with fail
   refine (begin_any v d g tp _ _ _ _ p p _ _ b s l r q F D _ HS.out.at_ HS.out.geo HS.out.vd HS.out.sep.1 HS.out.pl.place (by have := HAC.out; omega)).mono ?_
   rw [HX.out, HHD.out.1, HHD.out.2.1]
   rintro e1 w2 ⟨rfl, F2, ht1, ht2, ht3⟩
   have ht1' : VD w2 F2 d (headD D x p) := ht1
   have HT1 := hide ht1'
   have HT2 := hide ht2
   have hat := HS.out.at_.kept ht3 HS.out.sep.1
   have HAT := hide hat
   have HT3 := hide ht3
   have fz2 := Blk.frozen hat
   obtain ⟨j3, j4, j5, j6, j7⟩ := hat.place
   clear ht1 ht1' ht2 ht3 hat q0 q1 q2 q3 q4 q5 q6 q7 q8 q9 fz
   go_wp2_with fail
   go_meet
   have hks := (Kept.refl [v] w2).set_ (b := v) (.inl (by simp)) 4 (.int .i64 1)
   have hv2 : v ∉ F2 := fun hm => (HT2.out v hm).elim HS.out.sep.1 (fun g => by have := HS.out.at_.lt; omega)
   refine ⟨F2, hide ?_, HT2, hide ?_, hide ((HT3.out.mono (S' := v :: F) (fun i hi => by simp [hi])).trans hks (by simp))⟩
   ·rw [HPRE.out]
    exact HT1.out.kept hks (fun i hi hm => by simp at hm; subst hm; exact hv2 hi)
   ·have := Blk.set_ HAT.out 4 (.int .i64 1)
    unfold WAt atOf
    rw [HO1.out]
    exact this
  ·have ho1 : offOf p = p.o := by unfold offOf; rw [if_neg (by omega)]
   have hq0 : (p.o == 0) = false := beq_eq_false_iff_ne.2 hp0
   have hpre : preD D x p = D := if_neg hp0
   clear hp0
   go_wp2_with fail
   go_meet
   refine ⟨F, hide (by rw [hpre]; exact HS.out.vd), hide (fun i hi => .inl hi), hide ?_, hide (Kept.refl _ _)⟩
   have hat := HS.out.at_
   unfold WAt atOf at *
   rw [ho1]
   exact hat
 case rest =>
  obtain ⟨wa, rfl⟩ : ∃ wa, wa = wc := ⟨wc, rfl⟩
  obtain ⟨F1, HV1, HF1, HAT1, HK1⟩ := hcut
  have hnv : g ∉ v :: F ∧ tp ∉ v :: F ∧ V ∉ v :: F := by
   have h1 := HS.out.sep
   refine ⟨fun hm => ?_, fun hm => ?_, fun hm => ?_⟩
   ·exact (List.mem_cons.1 hm).elim (fun e => h1.2.2.2.2.2.2 e.symm) h1.2.2.2.1
   ·exact (List.mem_cons.1 hm).elim (fun e => h1.2.2.2.2.2.1 e.symm) h1.2.1
   ·exact (List.mem_cons.1 hm).elim (fun e => h1.2.2.2.2.1 e.symm) h1.2.2.1
  have HG1 := hide (HS.out.geo.kept HK1.out hnv.1)
  have HT1 := hide (HS.out.tab.kept HK1.out hnv.2.1 hnv.2.2)
  have hO1 := own_keep HS.out.own HK1.out (fun i hi hm => (List.mem_cons.1 hi).elim (HS.out.sepA i hm).2.1 (HS.out.sepA i hm).1)
  have hB1 := own_keep HS.out.byt HK1.out (fun i hi hm => (List.mem_cons.1 hi).elim (HS.out.sepB i hm).2.1 (HS.out.sepB i hm).1)
  obtain ⟨_, _, e1, _, hOv⟩ := own_read hO1
  cases e1
  obtain ⟨_, _, e2, hcap, hBv⟩ := own_read hB1
  cases e2
  have HIT := hide (show Items wa [] A its from hOv [] (by simp))
  have HBY := hide (hBv [] (by simp))
  have HCAP := hide hcap
  have hlt1 := HAT1.out.lt
  have HSEP1 := hide (show v ∉ F1 ∧ tp ∉ F1 ∧ V ∉ F1 ∧ g ∉ F1 ∧ v ≠ V from by
   have h1 := HS.out.sep
   refine ⟨fun hm => (HF1.out _ hm).elim h1.1 (fun g => by have := HS.out.at_.lt; omega), fun hm => (HF1.out _ hm).elim h1.2.1 (fun g => by have := HS.out.tab.tab.lt; omega), fun hm => (HF1.out _ hm).elim h1.2.2.1 (fun g => by have := HS.out.tab.seg.lt; omega), fun hm => (HF1.out _ hm).elim h1.2.2.2.1 (fun g2 => by have := HS.out.geo.lt; omega), h1.2.2.2.2.1⟩)
  have HR : Hid (Em wa wa.drew v d tp V F1 F1 b s l r q (preD D x p) T none) := hide ⟨HV1.out.kept (Kept.refl [] wa).drew (by simp), HT1.out.keep (Kept.refl [] wa).drew, fun i hi => .inl hi, (Kept.refl _ wa).drew, by simp⟩
  have HKW := hide (Kept.refl [] wa).drew
  have hVF : v ∉ V :: F1 := fun hm => (List.mem_cons.1 hm).elim HSEP1.out.2.2.2.2 HSEP1.out.1
  have HVF := hide hVF
  have HVL := hide (show V < wa.heap.size ∧ tp < wa.heap.size from ⟨HT1.out.seg.lt, HT1.out.tab.lt⟩)
  have HALL := hide (show ∀ W F2 D' T' o, Em wa W v d tp V F1 F2 b s l r q D' T' o → (fun W => W.cell? ⟨v, 8, none⟩ = some (.slice A its.length c) ∧ W.cell? ⟨v, 9, none⟩ = some (.slice H bl.length e)) W from fun W F2 D' T' o hh => (HAT1.out.kept hh.kept HVF.out).rows)
  clear hO1 hB1 hOv hBv hcap hVF hnv q0 q1 q2 q3 q4 q5 q6 q7 q8 q9 fz
  go_wp2
  go_cut [4, 5] from 41 to 54 (fun p4 p5 wx => ∃ (b4 : Nat) (F2 : List Nat), p4 = .pointer (some ⟨b4, 0, none⟩) ∧ p5 = .int .i64 0 ∧ Hid (Em wa wx v d tp V F1 F2 b s l r q (emitD D x p its bl) (us.touchOf T p.s p.l) none) ∧ Hid (Blk wx b4 24 #[.int .i64 (emitP p its bl).s, .int .i64 (emitP p its bl).o, .int .i64 (emitP p its bl).l, .int .i64 (emitP p its bl).v, .int .i64 (emitP p its bl).m]) ∧ Hid (b4 ∉ F2 ∧ wa.heap.size ≤ b4))
  case first =>
   refine wp_region_noPanic ?_
   refine wp_region_held_drew (S := fun W => W.cell? ⟨v, 8, none⟩ = some (.slice A its.length c) ∧ W.cell? ⟨v, 9, none⟩ = some (.slice H bl.length e)) (by kernel_rfl) (by exact HALL.out _ _ _ _ _ HR.out) (fun hHeld => ?_)
   refine tK 0 42 rfl ?_
   try simp only [Act.put, pA, pB, pC]
   refine tK 1 43 rfl ?_
   try simp only [Act.put, pA, pB, pC]
   refine tK 2 44 rfl ?_
   try simp only [Act.put, pA, pB, pC]
   refine tK 3 45 rfl ?_
   try simp only [Act.put, pA, pB, pC]
   refine tK 4 46 rfl ?_
   try simp only [Act.put, pA, pB, pC]
   refine tK 5 47 rfl ?_
   try simp only [Act.put, pA, pB, pC]
   refine tK 6 48 rfl ?_
   try simp only [Act.put, pA, pB, pC]
   refine tK 7 49 rfl ?_
   try simp only [Act.put, pA, pB, pC]
   refine tK 8 50 rfl ?_
   try simp only [Act.put, pA, pB, pC]
   refine next_two (i := 9) (j := 13) (o := ⟨some 51, _, _, _, _, _⟩) (o' := ⟨some 4, _, _, _, _, _⟩) (by kernel_rfl) rfl (by rfl) rfl (by rfl) (fun K hK => ?_) (fun K hK => ?_)
   ·(try generalize wa.drew = wd at HR HKW hHeld ⊢)
    go_simp
    have HLAY := hide (lay_any v d g tp V its.length c bl.length e (atOf p) A H b s l r q F1 (preD D x p) T A its.length c its H e (record.count its) bl a _ (HAT1.out.keep HKW.out) (HG1.out.kept HKW.out) HR.out.vd HR.out.tab HRD.out HSEP1.out (HIT.out.kept HKW.out (by simp)) rfl (HBY.out.kept HKW.out (by simp)) HS.out.pl.cnt (by rw [← HS.out.pl.cnt]; exact HCAP.out) HS.out.pl.place (by unfold atOf; dsimp only; have h1 := HS.out.pl.off; have h2 := HS.out.geo.ok; unfold Ok at h2; omega) (by unfold atOf; dsimp only; rw [HX.out]; exact HA.out) (by rw [HND.out]; exact HROOM.out) (by have h1 := HAD.out; have h2 := HAC.out; omega) HREC.out)
    rw [← HS.out.pl.cnt] at HLAY
    refine HLAY.out.mono ?_
    rintro e1 wn ⟨rfl, F2, l1, l2, l3, l4⟩
    have HR := hide (HR.out.c l1 l2 l3 l4 HVL.out)
    have HEQ := hide (show putk (preD D x p) (a : Int) (recAt (atOf p) its bl (record.count its)).bytes (1 + record.count its) = emitD D x p its bl from by unfold emitD; rw [HA.out])
    rw [HEQ.out] at HR
    clear l1 l2 l3 l4 HLAY
    unfold Ps.val
    refine hK _ _ (by exact HALL.out _ _ _ _ _ HR.out) ?_
    have hHeld := HALL.out _ _ _ _ _ HR.out
    clear hK K
    try simp only [Act.put, pA, pB, pC]
    refine tK 10 41 rfl ?_
    try simp only [Act.put, pA, pB, pC]
    refine tK 11 52 rfl ?_
    try simp only [Act.put, pA, pB, pC]
    refine tK 12 53 rfl ?_
    try simp only [Act.put, pA, pB, pC]
    refine hO 13 (some 4) rfl fun K hK => ?_
    (try generalize wa.drew = wd at HR HKW hHeld ⊢)
    go_simp
    obtain ⟨wm, hwm, HR'⟩ := HR.out.a.ex
    first | (have HKW := hide (HKW.out.alloc (.cells #[.int .i64 0, .int .i64 0, .int .i64 0, .int .i64 0, .int .i64 0] 24)); rw [hwm] at HKW ⊢) | rw [hwm]
    clear hwm
    have HR := hide HR'
    clear HR'
    refine hK.out _ _ (by exact HALL.out _ _ _ _ _ HR.out) (fun hHeld => ?_)
    clear hK K
    try simp only [Act.put, pA, pB, pC]
    refine hO 14 none rfl fun K hK => ?_
    have g14 := HR.out.bx _ rfl
    obtain ⟨z0, z1, z2, z3, z4⟩ := cell5 g14.1
    have fz := g14.1.frozen
    go_simp
    have HQ1 := hide (put5 (.int .i64 (atOf p).s) (.int .i64 ((atOf p).o + (1 + (record.count its : Int)))) (.int .i64 ((atOf p).l + 1)) (.int .i64 ((recAt (atOf p) its bl (record.count its)).sum : Int)) (.int .i64 (atOf p).m) g14.1)
    have HQ2 := hide (HR.out.put (put5_kept (S := [_]) (.int .i64 (atOf p).s) (.int .i64 ((atOf p).o + (1 + (record.count its : Int)))) (.int .i64 ((atOf p).l + 1)) (.int .i64 ((recAt (atOf p) its bl (record.count its)).sum : Int)) (.int .i64 (atOf p).m) (Kept.refl [_] _) (.inl (List.mem_singleton.2 rfl))) g14.2 HVL.out)
    refine hK.out _ _ (by exact HALL.out _ _ _ _ _ HQ2.out) (fun hHeld => ?_)
    clear hK K
    try simp only [Act.put, pA, pB, pC]
    refine tK 15 5 rfl ?_
    try simp only [Act.put, pA, pB, pC]
    refine wpAnyH_done (by kernel_rfl) ?_ _
    refine NoPanic.normal ?_
    go_wp2_with fail
    go_meet
    exact ⟨_, F2, rfl, rfl, HQ2, HQ1, hide g14.2⟩
   ·(try generalize wa.drew = wd at HR HKW hHeld ⊢)
    go_simp
    obtain ⟨wm, hwm, HR'⟩ := HR.out.a.ex
    first | (have HKW := hide (HKW.out.alloc (.cells #[.int .i64 0, .int .i64 0, .int .i64 0, .int .i64 0, .int .i64 0] 24)); rw [hwm] at HKW ⊢) | rw [hwm]
    clear hwm
    have HR := hide HR'
    clear HR'
    refine hK _ _ (by exact HALL.out _ _ _ _ _ HR.out) ?_
    have hHeld := HALL.out _ _ _ _ _ HR.out
    clear hK K
    try simp only [Act.put, pA, pB, pC]
    refine hO 9 (some 51) rfl fun K hK => ?_
    (try generalize wa.drew = wd at HR HKW hHeld ⊢)
    go_simp
    have HLAY := hide (lay_any v d g tp V its.length c bl.length e (atOf p) A H b s l r q F1 (preD D x p) T A its.length c its H e (record.count its) bl a _ (HAT1.out.keep HKW.out) (HG1.out.kept HKW.out) HR.out.vd HR.out.tab HRD.out HSEP1.out (HIT.out.kept HKW.out (by simp)) rfl (HBY.out.kept HKW.out (by simp)) HS.out.pl.cnt (by rw [← HS.out.pl.cnt]; exact HCAP.out) HS.out.pl.place (by unfold atOf; dsimp only; have h1 := HS.out.pl.off; have h2 := HS.out.geo.ok; unfold Ok at h2; omega) (by unfold atOf; dsimp only; rw [HX.out]; exact HA.out) (by rw [HND.out]; exact HROOM.out) (by have h1 := HAD.out; have h2 := HAC.out; omega) HREC.out)
    rw [← HS.out.pl.cnt] at HLAY
    refine HLAY.out.mono ?_
    rintro e1 wn ⟨rfl, F2, l1, l2, l3, l4⟩
    have HR := hide (HR.out.c l1 l2 l3 l4 HVL.out)
    have HEQ := hide (show putk (preD D x p) (a : Int) (recAt (atOf p) its bl (record.count its)).bytes (1 + record.count its) = emitD D x p its bl from by unfold emitD; rw [HA.out])
    rw [HEQ.out] at HR
    clear l1 l2 l3 l4 HLAY
    unfold Ps.val
    refine hK.out _ _ (by exact HALL.out _ _ _ _ _ HR.out) (fun hHeld => ?_)
    clear hK K
    try simp only [Act.put, pA, pB, pC]
    refine tK 10 41 rfl ?_
    try simp only [Act.put, pA, pB, pC]
    refine tK 11 52 rfl ?_
    try simp only [Act.put, pA, pB, pC]
    refine tK 12 53 rfl ?_
    try simp only [Act.put, pA, pB, pC]
    refine hO 14 none rfl fun K hK => ?_
    have g14 := HR.out.bx _ rfl
    obtain ⟨z0, z1, z2, z3, z4⟩ := cell5 g14.1
    have fz := g14.1.frozen
    go_simp
    have HQ1 := hide (put5 (.int .i64 (atOf p).s) (.int .i64 ((atOf p).o + (1 + (record.count its : Int)))) (.int .i64 ((atOf p).l + 1)) (.int .i64 ((recAt (atOf p) its bl (record.count its)).sum : Int)) (.int .i64 (atOf p).m) g14.1)
    have HQ2 := hide (HR.out.put (put5_kept (S := [_]) (.int .i64 (atOf p).s) (.int .i64 ((atOf p).o + (1 + (record.count its : Int)))) (.int .i64 ((atOf p).l + 1)) (.int .i64 ((recAt (atOf p) its bl (record.count its)).sum : Int)) (.int .i64 (atOf p).m) (Kept.refl [_] _) (.inl (List.mem_singleton.2 rfl))) g14.2 HVL.out)
    refine hK.out _ _ (by exact HALL.out _ _ _ _ _ HQ2.out) (fun hHeld => ?_)
    clear hK K
    try simp only [Act.put, pA, pB, pC]
    refine tK 15 5 rfl ?_
    try simp only [Act.put, pA, pB, pC]
    refine wpAnyH_done (by kernel_rfl) ?_ _
    refine NoPanic.normal ?_
    go_wp2_with fail
    go_meet
    exact ⟨_, F2, rfl, rfl, HQ2, HQ1, hide g14.2⟩
  case rest =>
   obtain ⟨b4, F2, rfl, rfl, HE2, HB4, HN4⟩ := hcut
   have hat := HAT1.out.kept HE2.out.kept HVF.out
   have HAT := hide hat
   obtain ⟨z0, z1, z2, z3, z4⟩ := cell5 HB4.out
   have fz := Blk.frozen hat
   obtain ⟨j3, j4, j5, j6, j7⟩ := hat.place
   obtain ⟨j8, j9⟩ := hat.rows
   have hvb : v ≠ b4 := by have h1 := hlt1; have h2 := HN4.out.2; omega
   clear hat HR HALL HKW HIT HBY
   have hx0 : ((0 : Int) != 0) = false := by decide
   go_wp2
   have hat := HAT.out
   unfold WAt at hat
   have hx : WAt (((((((wc.setCell ⟨v, 3, none⟩ (.int .i64 (emitP p its bl).s)).setCell ⟨v, 4, none⟩ (.int .i64 (emitP p its bl).o)).setCell ⟨v, 5, none⟩ (.int .i64 (emitP p its bl).l)).setCell ⟨v, 6, none⟩ (.int .i64 (emitP p its bl).v)).setCell ⟨v, 7, none⟩ (.int .i64 (emitP p its bl).m)).setCell ⟨v, 8, none⟩ (.slice none 0 0)).setCell ⟨v, 9, none⟩ (.slice none 0 0)) v d g tp (emitP p its bl) none 0 0 none 0 0 := (Blk.set_ (Blk.set_ (Blk.set_ (Blk.set_ (Blk.set_ (Blk.set_ (Blk.set_ hat 3 (.int .i64 (emitP p its bl).s)) 4 (.int .i64 (emitP p its bl).o)) 5 (.int .i64 (emitP p its bl).l)) 6 (.int .i64 (emitP p its bl).v)) 7 (.int .i64 (emitP p its bl).m)) 8 (.slice none 0 0)) 9 (.slice none 0 0))
   have hk : Kept [v] wc (((((((wc.setCell ⟨v, 3, none⟩ (.int .i64 (emitP p its bl).s)).setCell ⟨v, 4, none⟩ (.int .i64 (emitP p its bl).o)).setCell ⟨v, 5, none⟩ (.int .i64 (emitP p its bl).l)).setCell ⟨v, 6, none⟩ (.int .i64 (emitP p its bl).v)).setCell ⟨v, 7, none⟩ (.int .i64 (emitP p its bl).m)).setCell ⟨v, 8, none⟩ (.slice none 0 0)).setCell ⟨v, 9, none⟩ (.slice none 0 0)) := ((((((((Kept.refl [v] wc).set_ (b := v) (.inl (by simp)) 3 (.int .i64 (emitP p its bl).s)).set_ (b := v) (.inl (by simp)) 4 (.int .i64 (emitP p its bl).o)).set_ (b := v) (.inl (by simp)) 5 (.int .i64 (emitP p its bl).l)).set_ (b := v) (.inl (by simp)) 6 (.int .i64 (emitP p its bl).v)).set_ (b := v) (.inl (by simp)) 7 (.int .i64 (emitP p its bl).m)).set_ (b := v) (.inl (by simp)) 8 (.slice none 0 0)).set_ (b := v) (.inl (by simp)) 9 (.slice none 0 0))
   generalize (((((((wc.setCell ⟨v, 3, none⟩ (.int .i64 (emitP p its bl).s)).setCell ⟨v, 4, none⟩ (.int .i64 (emitP p its bl).o)).setCell ⟨v, 5, none⟩ (.int .i64 (emitP p its bl).l)).setCell ⟨v, 6, none⟩ (.int .i64 (emitP p its bl).v)).setCell ⟨v, 7, none⟩ (.int .i64 (emitP p its bl).m)).setCell ⟨v, 8, none⟩ (.slice none 0 0)).setCell ⟨v, 9, none⟩ (.slice none 0 0)) = WX at hx hk ⊢
   go_ret
   have hv2 : v ∉ F2 := fun hm => (HE2.out.sub v hm).elim HSEP1.out.1 (fun g => by omega)
   have hK := ((HK1.out.mono (S' := v :: V :: F) (fun i hi => (List.mem_cons.1 hi).elim (fun e => by simp [e]) (fun g => by simp [g]))).trans HE2.out.kept (fun i hi => (List.mem_cons.1 hi).elim (fun e => .inl (by simp [e])) (fun g => (HF1.out i g).imp (fun g => by simp [g]) id))).trans hk (fun i hi => .inl (by simp at hi; simp [hi]))
   have hsub : ∀ x ∈ F2, x ∈ F ∨ w.heap.size ≤ x := fun i hi => (HE2.out.sub i hi).elim (fun g => HF1.out i g) (fun g => .inr (Nat.le_trans HK1.out.size g))
   refine ⟨rfl, F2, ⟨hx, (HG1.out.kept (HE2.out.kept) ?_).kept hk ?_, HE2.out.vd.kept hk (fun i hi hm => by simp at hm; subst hm; exact hv2 hi), HE2.out.tab.kept hk ?_ ?_, World.ownsRow_nil _ _ _ _, World.ownsRow_nil _ _ _ _, ⟨hv2, fun hm => (HE2.out.sub _ hm).elim HSEP1.out.2.1 (fun g => by have := HVL.out.2; omega), fun hm => (HE2.out.sub _ hm).elim HSEP1.out.2.2.1 (fun g => by have := HVL.out.1; omega), fun hm => (HE2.out.sub _ hm).elim HSEP1.out.2.2.2.1 (fun g2 => by have := HG1.out.lt; omega), HS.out.sep.2.2.2.2.1, HS.out.sep.2.2.2.2.2.1, HS.out.sep.2.2.2.2.2.2⟩, HS.out.gV, by simp [Value.ownBlock], by simp [Value.ownBlock], HPL2.out⟩, hsub, hK⟩
   ·exact fun hm => (List.mem_cons.1 hm).elim (fun e => HS.out.gV.1 e) HSEP1.out.2.2.2.1
   ·simpa using fun e => HS.out.sep.2.2.2.2.2.2 e.symm
   ·simpa using fun e => HS.out.sep.2.2.2.2.2.1 e.symm
   ·simpa using fun e => HS.out.sep.2.2.2.2.1 e.symm
end Go.Proofs.YtolbalafhfpjbaaGreat.wr
