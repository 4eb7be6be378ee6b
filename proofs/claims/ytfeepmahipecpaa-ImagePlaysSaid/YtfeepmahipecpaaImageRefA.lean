/- The reference's image: its memory, table, set, Lay, Cut, Forget, Commit, Move, Look, Pending. -/
import Derived.Test.YtfeepmahipecpaaImageMove
import Derived.Test.YtfeepmahipecpaaImagePure
import Derived.Test.YtfeepmahipecpaaImageLoad
import Derived.Test.YtfeepmahipecpaaAlike
namespace Go.Proofs.Ytfeepmahipecpaa.im
set_option linter.unusedSimpArgs false
set_option linter.unusedVariables false
open Go.RowKit Go.Proofs.Ytfeepmahipecpaa.mem Go.Proofs.Ytfeepmahipecpaa.base Go.Proofs.Ytfeepmahipecpaa.pd Go.Proofs.Ytfeepmahipecpaa.owns
/-- Numbers at a block's beginning. -/
def Rw1 (w : World) (B : Nat) (l : List Int) : Prop := ∃ tl : List Value, Blk w B 3 (l.map I ++ tl).toArray
section
variable {w w' : World} {B : Nat} {l : List Int}
theorem Rw1.cell (h : Rw1 w B l) {j : Nat} (hj : j < l.length) : w.cell? ⟨B, j, none⟩ = some (.int .i64 (l.getD j 0)) := by
  obtain ⟨tl, h⟩ := h
  rw [h.cell, List.getElem?_toArray, List.getElem?_append_left (by simpa using hj), List.getElem?_map, getD_of hj]
  rfl
theorem Rw1.frozen (h : Rw1 w B l) (j : Nat) : w.frozen? ⟨B, j, none⟩ = false := by obtain ⟨tl, h⟩ := h; exact h.frozen j
theorem Rw1.put (h : Rw1 w B l) {j : Nat} (hj : j < l.length) (v : Int) : Rw1 (w.setCell ⟨B, j, none⟩ (.int .i64 v)) B (l.set j v) := by
  obtain ⟨tl, h⟩ := h
  refine ⟨tl, ?_⟩
  have := h.set_ j (.int .i64 v)
  rw [List.setIfInBounds_toArray, List.set_append_left _ _ (by simpa using hj)] at this
  rw [List.map_set]
  exact this
theorem Rw1.kept {S : List Nat} (h : Rw1 w B l) (k : Kept S w w') (hB : B ∉ S) : Rw1 w' B l := by obtain ⟨tl, h⟩ := h; exact ⟨tl, k.blk h hB⟩
theorem Rw1.lt (h : Rw1 w B l) : B < w.heap.size := by obtain ⟨tl, h⟩ := h; exact h.lt
theorem Rw1.vals (h : Rw1 w B l) (S : List Nat) (hB : B ∉ S) : Vals w S (some ⟨B, 0, none⟩) (l.map I) := by
  obtain ⟨tl, h⟩ := h
  refine Vals.blk 0 h hB (fun i v hv => ?_)
  rw [Nat.zero_add, List.getElem?_toArray, List.getElem?_append_left (List.getElem?_eq_some_iff.1 hv).1]
  exact hv
end
structure RI (w : World) (p V U D E c : Nat) (M : Im) : Prop where
  box : Blk w p 63 #[.slice (some ⟨V, 0, none⟩) M.b.l.length M.b.l.length, .slice (some ⟨U, 0, none⟩) M.b.l.length c, .slice (some ⟨D, 0, none⟩) M.b.d.length M.b.d.length, .slice (some ⟨E, 0, none⟩) M.b.d.length M.b.d.length]
  base : Rw1 w V M.b.l
  over : Rw1 w U M.o.l
  d : Blk w D 4 (bv M.b.d).toArray
  e : Blk w E 4 (bv M.o.d).toArray
  len : M.o.l.length = M.b.l.length
  dlen : M.o.d.length = M.b.d.length
  pg : M.b.d.length = (M.b.l.length + 14) / 15
  small : 1 ≤ M.b.l.length ∧ M.b.l.length ≤ 64
  cap : M.b.l.length ≤ c
  apart : [p, V, U, D, E].Nodup
section
variable {w w' : World} {p V U D E c : Nat} {M M' : Im}
theorem RI.ne (h : RI w p V U D E c M) : (p ≠ V ∧ p ≠ U ∧ p ≠ D ∧ p ≠ E) ∧ (V ≠ U ∧ V ≠ D ∧ V ≠ E) ∧ (U ≠ D ∧ U ≠ E) ∧ D ≠ E := by
  have ha := h.apart
  simp only [List.nodup_cons, List.mem_cons, List.not_mem_nil, or_false, not_or] at ha
  obtain ⟨⟨a1, a2, a3, a4⟩, ⟨b1, b2, b3⟩, ⟨c1, c2⟩, d1, _⟩ := ha
  exact ⟨⟨a1, a2, a3, a4⟩, ⟨b1, b2, b3⟩, ⟨c1, c2⟩, d1⟩
theorem RI.kept {S : List Nat} (h : RI w p V U D E c M) (k : Kept S w w') (hs : ∀ y ∈ [p, V, U, D, E], y ∉ S) : RI w' p V U D E c M :=
  { h with box := k.blk h.box (hs p (by simp)), base := h.base.kept k (hs V (by simp)), over := h.over.kept k (hs U (by simp)), d := k.blk h.d (hs D (by simp)), e := k.blk h.e (hs E (by simp)) }
theorem RI.keep (h : RI w p V U D E c M) (k : Kept [] w w') : RI w' p V U D E c M := h.kept k (by simp)
theorem RI.lt (h : RI w p V U D E c M) : ∀ y ∈ [p, V, U, D, E], y < w.heap.size := by
  intro y hy
  simp only [List.mem_cons, List.not_mem_nil, or_false] at hy
  rcases hy with rfl | rfl | rfl | rfl | rfl
  · exact h.box.lt
  · exact h.base.lt
  · exact h.over.lt
  · exact h.d.lt
  · exact h.e.lt
theorem RI.cells (h : RI w p V U D E c M) : w.cell? ⟨p, 0, none⟩ = some (.slice (some ⟨V, 0, none⟩) M.b.l.length M.b.l.length) ∧ w.cell? ⟨p, 1, none⟩ = some (.slice (some ⟨U, 0, none⟩) M.b.l.length c) ∧ w.cell? ⟨p, 2, none⟩ = some (.slice (some ⟨D, 0, none⟩) M.b.d.length M.b.d.length) ∧ w.cell? ⟨p, 3, none⟩ = some (.slice (some ⟨E, 0, none⟩) M.b.d.length M.b.d.length) := ⟨h.box.cell 0, h.box.cell 1, h.box.cell 2, h.box.cell 3⟩
def tabV (V U n c : Nat) (ov : Bool) : Value := if ov = true then .slice (some ⟨U, 0, none⟩) n c else .slice (some ⟨V, 0, none⟩) n n
def tabK (ov : Bool) : Int := if ov = true then 1 else 0
theorem rtable_any (h : RI w p V U D E c M) (ov : Bool) : Calls Try.prog 51 #[.pointer (some ⟨p, 0, none⟩), .bool ov] w fun e w' => e = .returned (.tuple #[tabV V U M.b.l.length c ov, .int .i64 (tabK ov)]) ∧ w = w' := by
  obtain ⟨c0, c1, _, _⟩ := h.cells
  generalize M.b.l.length = n at c0 c1 ⊢
  clear h
  unfold tabV tabK
  cases ov <;> (
    go_enter Try.func51, Try.ntmps51
    go_wp2
    go_ret2
    exact ⟨rfl, rfl⟩)
theorem Tb.swap_same (t : Tb) (b : Nat) (hb : b < t.l.length) (ref : Int) (he : t.l.getD b 0 = ref) : t.swap b ref = t := by
  unfold Tb.swap
  rw [if_pos he]
  have : t.l.set b ref = t.l := by
    rw [← he]
    apply List.ext_getElem?
    intro j
    rw [List.getElem?_set]
    by_cases hj : b = j
    · subst hj
      rw [if_pos rfl, if_pos hb, getD_of hb]
    · rw [if_neg hj]
  rw [this]
theorem Im.put_same (M : Im) (ov : Bool) : M.put ov (M.tb ov) = M := by cases ov <;> rfl
/-- What set leaves. -/
theorem RI.put1 (h : RI w p V U D E c M) (b : Nat) (ref : Int) (hb : b < M.b.l.length) (hne : M.b.l.getD b 0 ≠ ref) : RI ((w.setCell ⟨V, b, none⟩ (.int .i64 ref)).setCell ⟨D, b / 15, none⟩ (.bool true)) p V U D E c (M.put false (M.b.swap b ref)) ∧ Kept [V, U, D, E] w ((w.setCell ⟨V, b, none⟩ (.int .i64 ref)).setCell ⟨D, b / 15, none⟩ (.bool true)) := by
  obtain ⟨⟨a1, a2, a3, a4⟩, ⟨b1, b2, b3⟩, ⟨c1, c2⟩, d1⟩ := h.ne
  have k1 : Kept [V] w (w.setCell ⟨V, b, none⟩ (.int .i64 ref)) := (Kept.refl _ w).set_ (.inl (by simp)) b _
  have k2 : Kept [D] (w.setCell ⟨V, b, none⟩ (.int .i64 ref)) ((w.setCell ⟨V, b, none⟩ (.int .i64 ref)).setCell ⟨D, b / 15, none⟩ (.bool true)) := (Kept.refl _ _).set_ (.inl (by simp)) _ _
  have e : M.put false (M.b.swap b ref) = ⟨⟨M.b.l.set b ref, M.b.d.set (b / 15) true⟩, M.o⟩ := by unfold Tb.swap; rw [if_neg hne]; rfl
  rw [e]
  refine ⟨⟨?_, (h.base.put hb ref).kept k2 (by simp; exact b2), (h.over.kept k1 (by simp; exact fun e => b1 e.symm)).kept k2 (by simp; exact c1), ?_, k2.blk (k1.blk h.e (by simp; exact fun e => b3 e.symm)) (by simp; exact fun e => d1 e.symm), by simp; exact h.len, by simp; exact h.dlen, by simp; exact h.pg, by simp; exact h.small, by simp; exact h.cap, h.apart⟩, ?_⟩
  · simp only [List.length_set]
    exact k2.blk (k1.blk h.box (by simp; exact a1)) (by simp; exact a3)
  · have := (k1.blk h.d (by simp; exact fun e => b2 e.symm)).set_ (b / 15) (.bool true)
    rw [List.setIfInBounds_toArray] at this
    unfold bv at this ⊢
    rw [List.map_set]
    exact this
  · exact (k1.mono (S' := [V, U, D, E]) (by simp)).trans k2 (by simp)
theorem RI.put2 (h : RI w p V U D E c M) (b : Nat) (ref : Int) (hb : b < M.b.l.length) (hne : M.o.l.getD b 0 ≠ ref) : RI ((w.setCell ⟨U, b, none⟩ (.int .i64 ref)).setCell ⟨E, b / 15, none⟩ (.bool true)) p V U D E c (M.put true (M.o.swap b ref)) ∧ Kept [V, U, D, E] w ((w.setCell ⟨U, b, none⟩ (.int .i64 ref)).setCell ⟨E, b / 15, none⟩ (.bool true)) := by
  obtain ⟨⟨a1, a2, a3, a4⟩, ⟨b1, b2, b3⟩, ⟨c1, c2⟩, d1⟩ := h.ne
  have k1 : Kept [U] w (w.setCell ⟨U, b, none⟩ (.int .i64 ref)) := (Kept.refl _ w).set_ (.inl (by simp)) b _
  have k2 : Kept [E] (w.setCell ⟨U, b, none⟩ (.int .i64 ref)) ((w.setCell ⟨U, b, none⟩ (.int .i64 ref)).setCell ⟨E, b / 15, none⟩ (.bool true)) := (Kept.refl _ _).set_ (.inl (by simp)) _ _
  have e : M.put true (M.o.swap b ref) = ⟨M.b, ⟨M.o.l.set b ref, M.o.d.set (b / 15) true⟩⟩ := by unfold Tb.swap; rw [if_neg hne]; rfl
  rw [e]
  refine ⟨⟨?_, (h.base.kept k1 (by simp; exact b1)).kept k2 (by simp; exact b3), (h.over.put (by rw [h.len]; exact hb) ref).kept k2 (by simp; exact c2), k2.blk (k1.blk h.d (by simp; exact fun e => c1 e.symm)) (by simp; exact d1), ?_, by simp; exact h.len, by simp; exact h.dlen, h.pg, h.small, h.cap, h.apart⟩, ?_⟩
  · exact k2.blk (k1.blk h.box (by simp; exact a2)) (by simp; exact a4)
  · have := (k1.blk h.e (by simp; exact fun e => c2 e.symm)).set_ (b / 15) (.bool true)
    rw [List.setIfInBounds_toArray] at this
    unfold bv at this ⊢
    rw [List.map_set]
    exact this
  · exact (k1.mono (S' := [V, U, D, E]) (by simp)).trans k2 (by simp)
theorem went_max (t : Tb) (b : Nat) (ref : Int) (hne : t.l.getD b 0 ≠ ref) : t.went b ref = if t.l.getD b 0 < 0 then 0 else t.l.getD b 0 := by
  unfold Tb.went
  by_cases h : t.l.getD b 0 < 0
  · rw [if_pos h, if_pos (.inl (by omega))]
  · rw [if_neg h]
    by_cases h0 : t.l.getD b 0 = 0
    · rw [if_pos (.inl (by omega)), h0]
    · rw [if_neg (by omega)]
set_option maxRecDepth 100000 in
theorem rset_any (h : RI w p V U D E c M) (ov : Bool) (b : Nat) (ref : Int) (hb : b < M.b.l.length) :
    Calls Try.prog 38 #[.pointer (some ⟨p, 0, none⟩), .bool ov, .int .i64 b, .int .i64 ref] w fun e w' => e = .returned (.int .i64 ((M.tb ov).went b ref)) ∧ RI w' p V U D E c (M.put ov ((M.tb ov).swap b ref)) ∧ Kept [V, U, D, E] w w' := by
  obtain ⟨⟨a1, a2, a3, a4⟩, ⟨b1, b2, b3⟩, ⟨c1, c2⟩, d1⟩ := h.ne
  have hT := rtable_any h ov
  have hpg := h.pg
  have hsm := h.small
  obtain ⟨k, hk⟩ : ∃ k, b / 15 = k := ⟨_, rfl⟩
  have hkm : k < M.b.d.length := by omega
  have hdv : (b : Int).tdiv 15 = (k : Int) := by rw [← hk]; rfl
  have hkw : IntKind.i64.wrap (k : Int) = (k : Int) := IntWalk.i64_in _ (by omega)
  obtain ⟨x, hx⟩ : ∃ x, (M.tb ov).l.getD b 0 = x := ⟨_, rfl⟩
  obtain ⟨n, hn⟩ : ∃ n, M.b.l.length = n := ⟨_, rfl⟩
  obtain ⟨m, hm⟩ : ∃ m, M.b.d.length = m := ⟨_, rfl⟩
  obtain ⟨q0, q1, q2, q3⟩ := h.cells
  have hbn : b < n := by omega
  rw [hn] at hT
  have HT := hide hT
  by_cases he : x = ref
  · have hd : (x == ref) = true := beq_iff_eq.2 he
    have hlb : b < (M.tb ov).l.length := by cases ov; exact hb; show b < M.o.l.length; rw [h.len]; exact hb
    rw [Tb.swap_same _ b hlb ref (hx.trans he), Im.put_same, show (M.tb ov).went b ref = 0 from by unfold Tb.went; rw [if_pos (.inr (hx.trans he))]]
    have H := hide h
    have c0 : Hid (if ov = true then w.cell? ⟨U, b, none⟩ = some (.int .i64 x) else w.cell? ⟨V, b, none⟩ = some (.int .i64 x)) := hide (by
      cases ov
      · rw [if_neg (by decide)]; have := h.base.cell hb; rwa [show M.b.l.getD b 0 = x from hx] at this
      · rw [if_pos rfl]; have := h.over.cell (j := b) (by rw [h.len]; exact hb); rwa [show M.o.l.getD b 0 = x from hx] at this)
    clear h hT hpg hsm hk hkm hdv hkw hx hn hm q0 q1 q2 q3 he hlb hb a1 a2 a3 a4 b1 b2 b3 c1 c2 d1
    cases ov
    · have c1 := c0.out
      rw [if_neg (by decide)] at c1
      have HT1 := hide HT.out
      unfold tabV tabK at HT1
      rw [if_neg (by decide), if_neg (by decide)] at HT1
      go_enter Try.func38, Try.ntmps38
      go_wp2_with fail
      refine HT1.out.mono ?_
      rintro e w' ⟨rfl, rfl⟩
      go_wp2
      go_ret
      exact ⟨rfl, H.out, Kept.refl _ _⟩
    · have c1 := c0.out
      rw [if_pos rfl] at c1
      have HT1 := hide HT.out
      unfold tabV tabK at HT1
      rw [if_pos rfl, if_pos rfl] at HT1
      go_enter Try.func38, Try.ntmps38
      go_wp2_with fail
      refine HT1.out.mono ?_
      rintro e w' ⟨rfl, rfl⟩
      go_wp2
      go_ret
      exact ⟨rfl, H.out, Kept.refl _ _⟩
  · have hd : (x == ref) = false := beq_eq_false_iff_ne.2 he
    have hgo := went_max (M.tb ov) b ref (by rw [hx]; exact he)
    rw [hx] at hgo
    rw [hgo]
    clear hgo
    cases ov
    · obtain ⟨g1, g2⟩ := h.put1 b ref hb (by rw [show M.b.l.getD b 0 = x from hx]; exact he)
      have c0 := h.base.cell hb
      rw [show M.b.l.getD b 0 = x from hx] at c0
      have f0 := h.base.frozen b
      have k1 : Kept [V] w (w.setCell ⟨V, b, none⟩ (.int .i64 ref)) := (Kept.refl _ w).set_ (.inl (by simp)) b _
      have r2 := k1.cell q2 (by simp; exact a1)
      have dB := k1.blk h.d (by simp; exact fun e => b2 e.symm)
      have f1 := dB.frozen k
      obtain ⟨bo, hbo⟩ : ∃ bo, M.b.d[k]? = some bo := ⟨_, List.getElem?_eq_getElem hkm⟩
      have r3 : (w.setCell ⟨V, b, none⟩ (.int .i64 ref)).cell? ⟨D, k, none⟩ = some (.bool bo) := by rw [dB.cell]; simp [bv, hbo]
      rw [hk] at g1 g2
      rw [hm] at hkm q2 r2
      obtain ⟨w1, hw1⟩ : ∃ w1, w.setCell ⟨V, b, none⟩ (.int .i64 ref) = w1 := ⟨_, rfl⟩
      rw [hw1] at r2 r3 f1 g1 g2
      have HG1 := hide g1
      have HG2 := hide g2
      have HT1 := hide HT.out
      unfold tabV tabK at HT1
      rw [if_neg (by decide), if_neg (by decide)] at HT1
      clear h hT hpg hsm hk hx hn hm q0 q1 q2 q3 HT dB hbo k1 hb g1 g2
      by_cases hx0 : x < 0
      · rw [if_pos hx0]
        have hmx : max x 0 = 0 := by omega
        go_enter Try.func38, Try.ntmps38
        go_wp2_with fail
        refine HT1.out.mono ?_
        rintro e w' ⟨rfl, rfl⟩
        go_wp2
        go_ret
        exact ⟨rfl, HG1.out, HG2.out⟩
      · rw [if_neg hx0]
        have hmx : max x 0 = x := by omega
        go_enter Try.func38, Try.ntmps38
        go_wp2_with fail
        refine HT1.out.mono ?_
        rintro e w' ⟨rfl, rfl⟩
        go_wp2
        go_ret
        exact ⟨rfl, HG1.out, HG2.out⟩
    · obtain ⟨g1, g2⟩ := h.put2 b ref hb (by rw [show M.o.l.getD b 0 = x from hx]; exact he)
      have c0 := h.over.cell (j := b) (by rw [h.len]; exact hb)
      rw [show M.o.l.getD b 0 = x from hx] at c0
      have f0 := h.over.frozen b
      have k1 : Kept [U] w (w.setCell ⟨U, b, none⟩ (.int .i64 ref)) := (Kept.refl _ w).set_ (.inl (by simp)) b _
      have r2 := k1.cell q3 (by simp; exact a2)
      have dB := k1.blk h.e (by simp; exact fun e => c2 e.symm)
      have f1 := dB.frozen k
      obtain ⟨bo, hbo⟩ : ∃ bo, M.o.d[k]? = some bo := ⟨_, List.getElem?_eq_getElem (by rw [h.dlen]; exact hkm)⟩
      have r3 : (w.setCell ⟨U, b, none⟩ (.int .i64 ref)).cell? ⟨E, k, none⟩ = some (.bool bo) := by rw [dB.cell]; simp [bv, hbo]
      rw [hk] at g1 g2
      rw [hm] at hkm q3 r2
      obtain ⟨w1, hw1⟩ : ∃ w1, w.setCell ⟨U, b, none⟩ (.int .i64 ref) = w1 := ⟨_, rfl⟩
      rw [hw1] at r2 r3 f1 g1 g2
      have HG1 := hide g1
      have HG2 := hide g2
      have HT1 := hide HT.out
      unfold tabV tabK at HT1
      rw [if_pos rfl, if_pos rfl] at HT1
      clear h hT hpg hsm hk hx hn hm q0 q1 q2 q3 HT dB hbo k1 hb g1 g2
      by_cases hx0 : x < 0
      · rw [if_pos hx0]
        have hmx : max x 0 = 0 := by omega
        go_enter Try.func38, Try.ntmps38
        go_wp2_with fail
        refine HT1.out.mono ?_
        rintro e w' ⟨rfl, rfl⟩
        go_wp2
        go_ret
        exact ⟨rfl, HG1.out, HG2.out⟩
      · rw [if_neg hx0]
        have hmx : max x 0 = x := by omega
        go_enter Try.func38, Try.ntmps38
        go_wp2_with fail
        refine HT1.out.mono ?_
        rintro e w' ⟨rfl, rfl⟩
        go_wp2
        go_ret
        exact ⟨rfl, HG1.out, HG2.out⟩
end
end Go.Proofs.Ytfeepmahipecpaa.im
