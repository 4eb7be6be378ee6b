import Derived.Test.YtolbalafhfpjbaaGreatPWriterHold
set_option maxRecDepth 100000
set_option maxHeartbeats 1000000
namespace Go.Proofs.YtolbalafhfpjbaaGreat.wr
set_option linter.unusedSimpArgs false
set_option linter.unusedVariables false
open Go.RowKit mem base disk owns geom
open sc (Ps Seal sealed Reads putk)
open us (Rw inState TAt IsT backOf grabOf shutOf touchOf)
open item (It Items valsOf allMay)
open record (Rc RcAt cell5 put5 put5_kept)
def ldOf (i : It) : Int := if i.loaded = true then 1 else 0
def fit1 (l : Int) (p : Ps) (its : List It) (i : It) : Prop := its.length < 6 ∧ offOf p + 1 + ((record.count its : Int) + ldOf i) < l
def fit2 (l : Int) (p : Ps) (its : List It) (i : It) : Prop := offOf p + 1 + (record.count its : Int) + 1 + (0 + ldOf i) < l
structure Step (w W : World) (base v d g tp V : Nat) (F : List Nat) (b s l r q : Int) (its0 : List It) (bl0 : List UInt8) (A0 : Option Addr) (c0 : Nat) (H0 : Option Addr) (e0 : Nat) (D : Dk) (T : List Rw) (p : Ps) (its : List It) (bl : List UInt8) : Prop where
 ex : ∃ F' A' c' H' e', Ws W base v d g tp V F' b s l r q D T p its bl A' c' H' e' ∧ (∀ x ∈ F', x ∈ F ∨ w.heap.size ≤ x) ∧ Kept (v :: V :: (F ++ (Value.slice A0 its0.length c0).ownBlock.toList ++ (Value.slice H0 bl0.length e0).ownBlock.toList)) w W ∧
  (∀ j ∈ (Value.slice A' its.length c').ownBlock.toList, j ∈ (Value.slice A0 its0.length c0).ownBlock.toList ∨ w.heap.size ≤ j) ∧ (∀ j ∈ (Value.slice H' bl.length e').ownBlock.toList, j ∈ (Value.slice H0 bl0.length e0).ownBlock.toList ∨ w.heap.size ≤ j)
theorem Ws.keep {w W : World} {base v d g tp V : Nat} {F : List Nat} {b s l r q : Int} {D : Dk} {T : List Rw} {p : Ps} {its : List It} {bl : List UInt8} {A : Option Addr} {c : Nat} {H : Option Addr} {e : Nat} (h : Ws w base v d g tp V F b s l r q D T p its bl A c H e) (k : Kept [] w W) : Ws W base v d g tp V F b s l r q D T p its bl A c H e :=
 ⟨h.at_.keep k, h.geo.kept k, h.vd.kept k (by simp), h.tab.keep k, own_keep h.own k (by simp), own_keep h.byt k (by simp), h.sep, h.gV, h.sepA, h.sepB, h.pl⟩
section
variable (base v d g tp V : Nat) (F : List Nat) (b s l r q : Int) (D : Dk) (T : List Rw) (p : Ps) (its : List It) (bl : List UInt8) (A : Option Addr) (c : Nat) (H : Option Addr) (e : Nat) (i : It) (spare : Bool) (w : World)
theorem room_any (R : Ending → World → Prop) (h : Ws w base v d g tp V F b s l r q D T p its bl A c H e)
  (h1 : fit1 l p its i → ∀ W, Kept [] w W → R (.returned (.int .i64 0)) W)
  (h2 : ¬ fit1 l p its i → fit2 l p its i → ∀ W, Kept [] w W → Calls Tryz.prog 44 #[.pointer (some ⟨v, 0, none⟩)] W fun ex w' => ∃ k : Int, ex = .returned (.int .i64 k) ∧ R ex w')
  (h3 : ¬ fit1 l p its i → ¬ fit2 l p its i → ∀ W, Kept [] w W → Calls Tryz.prog 169 #[.pointer (some ⟨v, 0, none⟩), .bool spare] W fun ex w' => ∃ k : Int, ex = .returned (.int .i64 k) ∧ R ex w') :
  Calls Tryz.prog 104 #[.pointer (some ⟨v, 0, none⟩), i.val, .bool spare] w R := by
 obtain ⟨z, hz⟩ : ∃ z, w.heap.size = z := ⟨_, rfl⟩
 obtain ⟨w0, hw0⟩ : ∃ w0, w.alloc (.cells #[.int .i64 i.k, .int .i64 i.b, .int .i64 i.c, .int .i64 i.v] 84) = w0 := ⟨_, rfl⟩
 have hk0 : Kept [] w w0 := by rw [← hw0]; exact (Kept.refl [] w).alloc _
 have hb0 : Blk w0 z 84 #[.int .i64 i.k, .int .i64 i.b, .int .i64 i.c, .int .i64 i.v] := by rw [← hw0, ← hz]; exact Blk.new w _ _
 have HB := hide hb0
 have HK := hide hk0
 have HS := hide (h.keep hk0)
 have H1 := hide h1
 have H2 := hide h2
 have H3 := hide h3
 obtain ⟨i0, i1, i2, i3⟩ : w0.cell? ⟨z, 0, none⟩ = some (.int .i64 i.k) ∧ w0.cell? ⟨z, 1, none⟩ = some (.int .i64 i.b) ∧ w0.cell? ⟨z, 2, none⟩ = some (.int .i64 i.c) ∧ w0.cell? ⟨z, 3, none⟩ = some (.int .i64 i.v) := ⟨hb0.cell 0, hb0.cell 1, hb0.cell 2, hb0.cell 3⟩
 obtain ⟨q8, q9⟩ := HS.out.at_.rows
 have h6 := h.pl.bds
 have hof := offOf_le h.pl.off.1
 have hok := h.geo.ok
 unfold Ok at hok
 have hpo := h.pl.off
 obtain ⟨f, hf⟩ : ∃ f, offOf p = f := ⟨_, rfl⟩
 have HF := sealed hf
 rw [hf] at hof
 have HF1 := hide (fun W (hk : Kept [] w0 W) => fits_any v d g tp _ _ _ _ p A H b s l r q f (record.count its : Int) i W (HS.out.at_.keep hk) (HS.out.geo.kept hk) (by omega) (by omega))
 have HF2 := hide (fun W (hk : Kept [] w0 W) => fits_any v d g tp _ _ _ _ p A H b s l r q (f + 1 + (record.count its : Int)) 0 i W (HS.out.at_.keep hk) (HS.out.geo.kept hk) (by omega) (by omega))
 unfold It.val at HF1 HF2 ⊢
 have hw1 : IntKind.i64.wrap (f + 1) = f + 1 := IntWalk.i64_in _ (by omega)
 have hw2 : IntKind.i64.wrap (f + 1 + (record.count its : Int)) = f + 1 + (record.count its : Int) := IntWalk.i64_in _ (by omega)
 clear h h1 h2 h3 hk0 hb0 hof hok hpo hf
 go_enter Tryz.func104, Tryz.ntmps104
 go_wp2_with fail
 refine (off_any v d g tp _ _ _ _ p A H _ HS.out.at_).mono ?_
 rintro e1 w1 ⟨rfl, rfl⟩
 rw [HF.out]
 go_wp2_with fail
 refine (blocks_any v d g tp _ _ _ _ (record.count its) p A H _ HS.out.at_ HS.out.pl.cnt (by omega)).mono ?_
 rintro e1 w1 ⟨rfl, rfl⟩
 have fin : ∀ W, Kept [] w0 W → Kept [] w W := fun W k => HK.out.trans k (by simp)
 have HFIN := hide fin
 clear fin
 by_cases hlen : its.length < 6
 ·have hd6 : decide ((its.length : Int) < 6) = true := decide_eq_true (by omega)
  go_wp2_with fail
  refine (HF1.out _ (Kept.refl [] _)).mono ?_
  rintro e1 w2 ⟨rfl, hk2⟩
  have HK2 := hide hk2
  clear hk2
  by_cases hft : f + 1 + ((record.count its : Int) + (if i.loaded = true then 1 else 0)) < l
  ·have HT := hide (show fit1 l p its i from ⟨hlen, by rw [HF.out]; exact hft⟩)
   rw [decide_eq_true hft]
   clear hft
   go_wp2
   exact H1.out HT.out _ (HFIN.out _ HK2.out)
  ·have HT := hide (show ¬ fit1 l p its i from fun hh => hft (by rw [← HF.out]; exact hh.2))
   rw [decide_eq_false hft]
   clear hft
   obtain ⟨i0, i1, i2, i3⟩ : w2.cell? ⟨z, 0, none⟩ = some (.int .i64 i.k) ∧ w2.cell? ⟨z, 1, none⟩ = some (.int .i64 i.b) ∧ w2.cell? ⟨z, 2, none⟩ = some (.int .i64 i.c) ∧ w2.cell? ⟨z, 3, none⟩ = some (.int .i64 i.v) := by
    have hb := HK2.out.blk HB.out (by simp)
    exact ⟨hb.cell 0, hb.cell 1, hb.cell 2, hb.cell 3⟩
   go_wp2_with fail
   refine (HF2.out _ HK2.out).mono ?_
   rintro e1 w3 ⟨rfl, hk3⟩
   have HK3 := hide (HK2.out.trans hk3 (by simp))
   clear hk3
   by_cases hf2 : f + 1 + (record.count its : Int) + 1 + (0 + (if i.loaded = true then 1 else 0)) < l
   ·have HT2 := hide (show fit2 l p its i from by unfold fit2; rw [HF.out]; exact hf2)
    rw [decide_eq_true hf2]
    clear hf2
    go_wp2_with fail
    refine (H2.out HT.out HT2.out _ (HFIN.out _ HK3.out)).mono ?_
    rintro e1 w4 ⟨k, rfl, hR⟩
    have HR := hide hR
    clear hR
    go_wp2
    exact HR.out
   ·have HT2 := hide (show ¬ fit2 l p its i from fun hh => hf2 (by unfold fit2 at hh; rw [HF.out] at hh; exact hh))
    rw [decide_eq_false hf2]
    clear hf2
    go_wp2_with fail
    refine (H3.out HT.out HT2.out _ (HFIN.out _ HK3.out)).mono ?_
    rintro e1 w4 ⟨k, rfl, hR⟩
    have HR := hide hR
    clear hR
    go_wp2
    exact HR.out
 ·have hd6 : decide ((its.length : Int) < 6) = false := decide_eq_false (by omega)
  have HT := hide (show ¬ fit1 l p its i from fun hh => hlen hh.1)
  go_wp2_with fail
  refine (HF2.out _ (Kept.refl [] _)).mono ?_
  rintro e1 w3 ⟨rfl, hk3⟩
  have HK3 := hide hk3
  clear hk3
  by_cases hf2 : f + 1 + (record.count its : Int) + 1 + (0 + (if i.loaded = true then 1 else 0)) < l
  ·have HT2 := hide (show fit2 l p its i from by unfold fit2; rw [HF.out]; exact hf2)
   rw [decide_eq_true hf2]
   clear hf2
   go_wp2_with fail
   refine (H2.out HT.out HT2.out _ (HFIN.out _ HK3.out)).mono ?_
   rintro e1 w4 ⟨k, rfl, hR⟩
   have HR := hide hR
   clear hR
   go_wp2
   exact HR.out
  ·have HT2 := hide (show ¬ fit2 l p its i from fun hh => hf2 (by unfold fit2 at hh; rw [HF.out] at hh; exact hh))
   rw [decide_eq_false hf2]
   clear hf2
   go_wp2_with fail
   refine (H3.out HT.out HT2.out _ (HFIN.out _ HK3.out)).mono ?_
   rintro e1 w4 ⟨k, rfl, hR⟩
   have HR := hide hR
   clear hR
   go_wp2
   exact HR.out
end
theorem room_keep (base v d g tp V : Nat) (F : List Nat) (b s l r q : Int) (D : Dk) (T : List Rw) (p : Ps) (its : List It) (bl : List UInt8) (A : Option Addr) (c : Nat) (H : Option Addr) (e : Nat) (i : It) (spare : Bool) (w : World) (h : Ws w base v d g tp V F b s l r q D T p its bl A c H e) (hf : fit1 l p its i) :
  Calls Tryz.prog 104 #[.pointer (some ⟨v, 0, none⟩), i.val, .bool spare] w fun ex w' => ex = .returned (.int .i64 0) ∧ Step w w' base v d g tp V F b s l r q its bl A c H e D T p its bl :=
 room_any base v d g tp V F b s l r q D T p its bl A c H e i spare w _ h (fun _ W k => ⟨rfl, ⟨F, A, c, H, e, h.keep k, fun x hx => .inl hx, k.mono (by simp), fun j hj => .inl hj, fun j hj => .inl hj⟩⟩) (fun hn => absurd hf hn) (fun hn => absurd hf hn)
theorem room_emit (base v d g tp V : Nat) (F : List Nat) (b s l r q : Int) (D : Dk) (T : List Rw) (p : Ps) (its : List It) (bl : List UInt8) (A : Option Addr) (c : Nat) (H : Option Addr) (e : Nat) (i : It) (spare : Bool) (w : World) (h : Ws w base v d g tp V F b s l r q D T p its bl A c H e) (hn : ¬ fit1 l p its i) (hf : fit2 l p its i) (hac : D.acts ≤ 700000) (hln : p.l ≤ 1900000000) :
  Calls Tryz.prog 104 #[.pointer (some ⟨v, 0, none⟩), i.val, .bool spare] w fun ex w' => ex = .returned (.int .i64 0) ∧ Step w w' base v d g tp V F b s l r q its bl A c H e (allD D (2 + 2 * r + 4 * q + p.s * l) p its bl) (allT T p its) (allP p its bl) [] [] :=
 room_any base v d g tp V F b s l r q D T p its bl A c H e i spare w _ h (fun h1 => absurd h1 hn) (fun _ _ W k => (emit_all base v d g tp V F b s l r q D T p its bl A c H e W (h.keep k) hac hln).mono fun ex w' ⟨he, F', A', c', H', e', h1, h2, h3, h4, h5⟩ =>
  ⟨0, he, he, ⟨F', A', c', H', e', h1, fun x hx => (h2 x hx).imp id (fun hh => Nat.le_trans k.size hh), (k.mono (by simp)).trans h3 (fun j hj => .inl (by simp at hj ⊢; rcases hj with hj | hj | hj <;> simp [hj])), fun j hj => .inl (h4 j hj), fun j hj => .inl (h5 j hj)⟩⟩) (fun _ h2 => absurd hf h2)
theorem room_turn (base v d g tp V : Nat) (F : List Nat) (b s l r q : Int) (D : Dk) (T : List Rw) (p : Ps) (its : List It) (bl : List UInt8) (A : Option Addr) (c : Nat) (H : Option Addr) (e : Nat) (i : It) (spare : Bool) (x : Int) (L0 : List Int) (w : World) (h : Ws w base v d g tp V F b s l r q D T p its bl A c H e) (hn : ¬ fit1 l p its i) (hn2 : ¬ fit2 l p its i)
  (hm : ¬ ((inState T 0 T.length).length : Int) ≤ backOf spare) (hi : inState (allT T p its) 0 (allT T p its).length = x :: L0) (hlen : backOf spare < ((x :: L0).length : Int)) (hx : 0 ≤ x ∧ x ≤ s - 1) (hpo : 1 ≤ (allP p its bl).o) (hac : D.acts ≤ 600000) (hln : p.l ≤ 1800000000) :
  Calls Tryz.prog 104 #[.pointer (some ⟨v, 0, none⟩), i.val, .bool spare] w fun ex w' => ex = .returned (.int .i64 0) ∧ Step w w' base v d g tp V F b s l r q its bl A c H e (turnD (allD D (2 + 2 * r + 4 * q + p.s * l) p its bl) r q l (allP p its bl) x) (shutOf (touchOf (grabOf (allT T p its) x) (allP p its bl).s (allP p its bl).l) (allP p its bl).s) (turnP (allP p its bl) x) [] [] :=
 room_any base v d g tp V F b s l r q D T p its bl A c H e i spare w _ h (fun h1 => absurd h1 hn) (fun _ h2 => absurd h2 hn2) (fun _ _ W k => (turn_any base v d g tp V F b s l r q D T p its bl A c H e spare x L0 W (h.keep k) hm hi hlen hx hpo hac hln).mono fun ex w' ⟨he, F', A', c', H', e', h1, h2, h3, h4, h5⟩ =>
  ⟨0, he, he, ⟨F', A', c', H', e', h1, fun x hx => (h2 x hx).imp id (fun hh => Nat.le_trans k.size hh), (k.mono (by simp)).trans h3 (fun j hj => .inl (by simp at hj ⊢; rcases hj with hj | hj | hj <;> simp [hj])), fun j hj => .inl (h4 j hj), fun j hj => .inl (h5 j hj)⟩⟩)
section
variable (base v d g tp V : Nat) (F : List Nat) (b s l r q : Int) (D : Dk) (T : List Rw) (p : Ps) (its : List It) (bl : List UInt8) (A : Option Addr) (c : Nat) (H : Option Addr) (e : Nat) (i : It) (Bp : Option Addr) (nb cb : Nat) (bb : List UInt8) (spare : Bool) (w : World)
theorem add_bad (h : Ws w base v d g tp V F b s l r q D T p its bl A c H e) (hadd : ¬ addOk i nb) :
  Calls Tryz.prog 42 #[.pointer (some ⟨v, 0, none⟩), i.val, .slice Bp nb cb, .bool spare] w fun ex w' => ex = .returned (.tuple #[.int .i64 0, .int .i64 1]) ∧ Kept [] w w' := by
 obtain ⟨z, hz⟩ : ∃ z, w.heap.size = z := ⟨_, rfl⟩
 obtain ⟨w0, hw0⟩ : ∃ w0, w.alloc (.cells #[.int .i64 i.k, .int .i64 i.b, .int .i64 i.c, .int .i64 i.v] 84) = w0 := ⟨_, rfl⟩
 have hk0 : Kept [] w w0 := by rw [← hw0]; exact (Kept.refl [] w).alloc _
 have hb0 : Blk w0 z 84 #[.int .i64 i.k, .int .i64 i.b, .int .i64 i.c, .int .i64 i.v] := by rw [← hw0, ← hz]; exact Blk.new w _ _
 obtain ⟨i0, i1, i2, i3⟩ : w0.cell? ⟨z, 0, none⟩ = some (.int .i64 i.k) ∧ w0.cell? ⟨z, 1, none⟩ = some (.int .i64 i.b) ∧ w0.cell? ⟨z, 2, none⟩ = some (.int .i64 i.c) ∧ w0.cell? ⟨z, 3, none⟩ = some (.int .i64 i.v) := ⟨hb0.cell 0, hb0.cell 1, hb0.cell 2, hb0.cell 3⟩
 have HK := hide hk0
 have HM := hide (fun W => mayAdd_any i Bp nb cb W)
 rw [decide_eq_false hadd] at HM
 unfold It.val at HM ⊢
 clear h hadd hk0 hb0
 go_enter Tryz.func42, Tryz.ntmps42
 go_wp2_with fail
 refine (HM.out _).mono ?_
 rintro e1 w1 ⟨rfl, hk1⟩
 have HK1 := hide (HK.out.trans hk1 (by simp))
 clear hk1
 go_wp2
 refine bodyPost_ret (v := .tuple #[.int .i64 0, .int .i64 1]) (by simp [results, Tryz.results42, go_sem]) rfl ?_
 exact ⟨rfl, HK1.out⟩
theorem add_ok {D' : Dk} {T' : List Rw} {p' : Ps} {its' : List It} {bl' : List UInt8} (h : Ws w base v d g tp V F b s l r q D T p its bl A c H e) (hbase : base ≤ w.heap.size) (hadd : addOk i nb) (hbb : bb.length = nb)
  (hv : Vals w (v :: V :: (F ++ (Value.slice A its.length c).ownBlock.toList ++ (Value.slice H bl.length e).ownBlock.toList)) Bp (bb.map B))
  (hroom : ∀ W, Kept [] w W → Calls Tryz.prog 104 #[.pointer (some ⟨v, 0, none⟩), i.val, .bool spare] W fun ex w' => ex = .returned (.int .i64 0) ∧ Step W w' base v d g tp V F b s l r q its bl A c H e D' T' p' its' bl')
  (h6 : its'.length < 6) (hrm : offOf p' + 1 + ((record.count its' : Int) + ldOf i) ≤ l - 1) :
  Calls Tryz.prog 42 #[.pointer (some ⟨v, 0, none⟩), i.val, .slice Bp nb cb, .bool spare] w fun ex w' => ex = .returned (.tuple #[.int .i64 (heldAt r q l p' its' i), .int .i64 0]) ∧ Step w w' base v d g tp V F b s l r q its bl A c H e D' T' p' (its' ++ [i]) (bl' ++ bb) := by
 obtain ⟨z, hz⟩ : ∃ z, w.heap.size = z := ⟨_, rfl⟩
 obtain ⟨w0, hw0⟩ : ∃ w0, w.alloc (.cells #[.int .i64 i.k, .int .i64 i.b, .int .i64 i.c, .int .i64 i.v] 84) = w0 := ⟨_, rfl⟩
 have hk0 : Kept [] w w0 := by rw [← hw0]; exact (Kept.refl [] w).alloc _
 have hb0 : Blk w0 z 84 #[.int .i64 i.k, .int .i64 i.b, .int .i64 i.c, .int .i64 i.v] := by rw [← hw0, ← hz]; exact Blk.new w _ _
 obtain ⟨i0, i1, i2, i3⟩ : w0.cell? ⟨z, 0, none⟩ = some (.int .i64 i.k) ∧ w0.cell? ⟨z, 1, none⟩ = some (.int .i64 i.b) ∧ w0.cell? ⟨z, 2, none⟩ = some (.int .i64 i.c) ∧ w0.cell? ⟨z, 3, none⟩ = some (.int .i64 i.v) := ⟨hb0.cell 0, hb0.cell 1, hb0.cell 2, hb0.cell 3⟩
 have HK := hide hk0
 have HB := hide hb0
 have HS := hide h
 have HV := hide hv
 have HBASE := hide hbase
 have HO := hide h.pl.reads.live.off
 have HADD := hide hadd
 have HBB := hide hbb
 have HM := hide (fun W => mayAdd_any i Bp nb cb W)
 rw [decide_eq_true hadd] at HM
 have HR := hide hroom
 have HRM := hide hrm
 have HH := hide (fun W F' A' c' H' e' hs hba hvv => hold_any base v d g tp V F' b s l r q D' T' p' its' bl' A' c' H' e' i Bp nb cb bb W hs hba hadd.1 h6 (by rw [hbb]; exact hadd.2.2) hbb (by unfold ldOf at hrm; exact hrm) hvv)
 obtain ⟨ha, hha⟩ : ∃ ha, heldAt r q l p' its' i = ha := ⟨_, rfl⟩
 rw [hha] at HH ⊢
 unfold It.val at HM HR HH ⊢
 clear h hadd hk0 hb0 hroom hrm hv hbase hbb hha
 have h00 : ((0 : Int) != 0) = false := by decide
 go_enter Tryz.func42, Tryz.ntmps42
 go_wp2_with fail
 refine (HM.out _).mono ?_
 rintro e1 w1 ⟨rfl, hk1⟩
 have HK1 := hide (HK.out.trans hk1 (by simp))
 have hb := hk1.blk HB.out (by simp)
 have HB1 := hide hb
 obtain ⟨j0, j1, j2, j3⟩ : w1.cell? ⟨z, 0, none⟩ = some (.int .i64 i.k) ∧ w1.cell? ⟨z, 1, none⟩ = some (.int .i64 i.b) ∧ w1.cell? ⟨z, 2, none⟩ = some (.int .i64 i.c) ∧ w1.cell? ⟨z, 3, none⟩ = some (.int .i64 i.v) := ⟨hb.cell 0, hb.cell 1, hb.cell 2, hb.cell 3⟩
 have HS1 := hide (HS.out.keep HK1.out)
 have q0 := HS1.out.at_.ptr.1
 clear hk1 hb i0 i1 i2 i3
 go_wp2_with fail
 refine (off_at d F D _ HS1.out.vd).mono ?_
 rintro e1 w2 ⟨rfl, rfl⟩
 rw [HO.out]
 go_wp2_with fail
 refine (HR.out _ HK1.out).mono ?_
 rintro e1 w3 ⟨rfl, F', A', c', H', e', hs3, hsub, hk3, hA3, hH3⟩
 have hzn : z ∉ v :: V :: (F ++ (Value.slice A its.length c).ownBlock.toList ++ (Value.slice H bl.length e).ownBlock.toList) := fun hm => by
  simp only [List.mem_cons, List.mem_append] at hm
  rcases hm with rfl | rfl | (hm | hm) | hm
  ·have := HS.out.at_.lt; omega
  ·have := HS.out.tab.seg.lt; omega
  ·have := HS.out.vd.lt z hm; omega
  ·have := (own_blk HS.out.own z hm).2.1; omega
  ·have := (own_blk HS.out.byt z hm).2.1; omega
 have hb3 := hk3.blk HB1.out hzn
 obtain ⟨l0, l1, l2, l3⟩ : w3.cell? ⟨z, 0, none⟩ = some (.int .i64 i.k) ∧ w3.cell? ⟨z, 1, none⟩ = some (.int .i64 i.b) ∧ w3.cell? ⟨z, 2, none⟩ = some (.int .i64 i.c) ∧ w3.cell? ⟨z, 3, none⟩ = some (.int .i64 i.v) := ⟨hb3.cell 0, hb3.cell 1, hb3.cell 2, hb3.cell 3⟩
 have HS3 := hide hs3
 have HSUB := hide hsub
 have HKT := hide hk3
 have HA3 := hide hA3
 have HH3 := hide hH3
 have hK01 := HK1.out.size
 have HV3 := hide (show Vals w3 (Value.slice A' its'.length c').ownBlock.toList Bp (bb.map B) from by
  have h1 := (Vals.away HV.out (S' := (v :: V :: (F ++ (Value.slice A its.length c).ownBlock.toList ++ (Value.slice H bl.length e).ownBlock.toList)) ++ (Value.slice A' its'.length c').ownBlock.toList) (fun j hj => (List.mem_append.1 hj).elim .inl (fun hh => (hA3 j hh).elim (fun g => .inl (by simp [g])) (fun g => .inr (by omega))))).kept HK1.out (by simp)
  exact (h1.kept hk3 (fun j hj => List.mem_append_left _ hj)).mono (fun j hj => List.mem_append_right _ hj))
 clear hs3 hsub hk3 hA3 hH3 hb3 j0 j1 j2 j3 q0
 go_wp2_with fail
 refine (HH.out _ F' A' c' H' e' HS3.out (by have h1 := HBASE.out; have h2 := HKT.out.size; omega) HV3.out).mono ?_
 rintro e1 w4 ⟨rfl, A2, c2, H2, e2, hs4, hk4, ho4⟩
 have HS4 := hide hs4
 have HK4 := hide hk4
 have HO4 := hide ho4
 clear hs4 hk4 ho4 l0 l1 l2 l3
 go_wp2
 refine bodyPost_ret (v := .tuple #[.int .i64 ha, .int .i64 0]) (by simp [results, Tryz.results42, go_sem]) rfl ?_
 have hw3 := HKT.out.size
 refine ⟨rfl, F', A2, c2, H2, e2, HS4.out, fun x hx => (HSUB.out x hx).imp id (fun hh => by omega), ?_, ?_, ?_⟩
 ·have h1 := (HK1.out.mono (S' := v :: V :: (F ++ (Value.slice A its.length c).ownBlock.toList ++ (Value.slice H bl.length e).ownBlock.toList)) (by simp)).trans HKT.out (fun j hj => .inl hj)
  refine h1.trans HK4.out (fun j hj => ?_)
  rcases List.mem_cons.1 hj with rfl | hj
  ·exact .inl (by simp)
  rcases List.mem_append.1 hj with hj | hj
  ·exact (HA3.out j hj).imp (fun g => by simp [g]) (fun g => by omega)
  ·exact (HH3.out j hj).imp (fun g => by simp [g]) (fun g => by omega)
 ·exact fun j hj => (HO4.out.1 j hj).elim (fun g => (HA3.out j g).imp id (fun g => by omega)) (fun g => .inr (by omega))
 ·exact fun j hj => (HO4.out.2 j hj).elim (fun g => (HH3.out j g).imp id (fun g => by omega)) (fun g => .inr (by omega))
end
end Go.Proofs.YtolbalafhfpjbaaGreat.wr
