import Derived.Test.YtgifeilmidpkeaaGreatVChainAwake
set_option linter.unusedSimpArgs false
set_option linter.unusedVariables false
namespace Go.Proofs.YtgifeilmidpkeaaGreat.sc
open Go.RowKit mem base disk geom
open record (Rc)
theorem recs_fit {D : Dk} (hD : D.ok) {a z : Int} : ∀ (f : Nat) (p : Ps), ∀ y ∈ (recs D a z f p).1, fits y.2 y.1 = true
 | 0, p => by simp [recs]
 | f + 1, p => by
  unfold recs
  rcases hf : follow D a z p with ⟨o, e⟩
  cases o with
  | none => simp
  | some y =>
   obtain ⟨R0, s0⟩ := y
   obtain ⟨h1, _, _, h4, _⟩ := follow_ok hD hf
   dsimp only
   by_cases hn : hasNext R0 = true
   ·rw [if_pos hn]
    intro y hy
    rw [List.mem_singleton.1 hy]
    exact h4
   ·rw [if_neg hn]
    intro y hy
    rcases List.mem_cons.1 hy with rfl | hy
    ·exact h4
    ·exact recs_fit hD f _ y hy
def NumL (p : Ps) (L : List (Ps × Rc)) (E : Ps) : Prop := E.l = p.l + L.length ∧ ∀ (i : Nat) (y : Ps × Rc), L[i]? = some y → y.2.l = p.l + i ∧ y.1.l = y.2.l ∧ y.1.v = y.2.p ∧ y.2.ok
theorem seg_num {D : Dk} (hD : D.ok) {s l r q : Int} {p : Ps} {L : List (Ps × Rc)} {E : Ps} {err : Int} (h : segOf D s l r q p = (L, E, err)) : NumL p L E := by
 unfold segOf scanOf at h
 rcases hst : start D (ofSeg none s l r q p.s).2.1 (ofSeg none s l r q p.s).2.2 p false with ⟨o, e⟩
 rw [hst] at h
 cases o with
 | none =>
  dsimp only at h
  injection h with h1 h2
  injection h2 with h2 _
  subst h1 h2
  exact ⟨by simp, by simp⟩
 | some x =>
  dsimp only at h
  have hxl : x.l = p.l := by
   unfold start at hst
   split at hst
   ·injection hst with h1 _
    injection h1 with h1
    rw [← h1]
   ·split at hst
    ·cases hst
    ·split at hst
     ·rename_i h5
      injection hst with h1 _
      injection h1 with h1
      rw [← h1]
      have h6 := h5.2.resolve_left (by simp)
      unfold hd.fits at h6
      simp at h6
      exact h6.2.2.1
     ·cases hst
  obtain ⟨n1, n2⟩ := recs_num hD (ofSeg none s l r q p.s).2.2.toNat x (a := (ofSeg none s l r q p.s).2.1) (z := (ofSeg none s l r q p.s).2.2)
  have n3 := recs_fit hD (ofSeg none s l r q p.s).2.2.toNat x (a := (ofSeg none s l r q p.s).2.1) (z := (ofSeg none s l r q p.s).2.2)
  rw [h] at n1 n2 n3
  refine ⟨by rw [n1, hxl], fun i y hy => ?_⟩
  obtain ⟨m1, m2⟩ := n2 i y hy
  have m3 := n3 y (List.mem_of_getElem? hy)
  unfold fits at m3
  simp at m3
  exact ⟨by rw [m1, hxl], m3.1.symm, m3.2.1.symm, m2⟩
theorem Logs.nums {D : Dk} (hD : D.ok) {s l r q : Int} {p : Ps} {L : List (Ps × Rc)} {E : Ps} {err : Int} (h : Logs D s l r q p L E err) : NumL p L E := by
 induction h with
 | last p L E err at_ h hs => exact seg_num hD h
 | more p L E err at_ L2 E2 err2 h hs h2 ih =>
  obtain ⟨a1, a2⟩ := seg_num hD h
  obtain ⟨b1, b2⟩ := ih
  obtain ⟨_, c1, _⟩ := hs.done h rfl
  refine ⟨by rw [b1, c1, a1, List.length_append]; omega, fun i y hy => ?_⟩
  by_cases hi : i < L.length
  ·rw [List.getElem?_append_left hi] at hy
   exact a2 i y hy
  ·rw [List.getElem?_append_right (by omega)] at hy
   obtain ⟨d1, d2⟩ := b2 _ y hy
   exact ⟨by rw [d1, c1, a1]; omega, d2⟩
theorem FncIn.at_ {w : World} {S : List Nat} : ∀ {l : List (Ps × Rc)} {xs : List Value} {i : Nat} {y : Ps × Rc}, FncIn w S l xs → l[i]? = some y → xs[10 * i]? = some (.int .i64 y.1.s) ∧ xs[10 * i + 1]? = some (.int .i64 y.1.o) ∧ xs[10 * i + 2]? = some (.int .i64 y.1.l) ∧ xs[10 * i + 3]? = some (.int .i64 y.1.v) ∧ xs[10 * i + 4]? = some (.int .i64 y.1.m) ∧ xs[10 * i + 5]? = some (.int .i64 y.2.m) ∧ xs[10 * i + 6]? = some (.int .i64 y.2.l) ∧ xs[10 * i + 7]? = some (.int .i64 y.2.p)
 | [], _, _, _, _, h => by simp at h
 | (pk, R) :: l, _, 0, y, ⟨L, m, c, P, n, d, rest, h1, h2, h3⟩, h => by
  simp at h
  subst h h1
  simp
 | (pk, R) :: l, _, i + 1, y, ⟨L, m, c, P, n, d, rest, h1, h2, h3⟩, h => by
  have := h3.at_ (i := i) (y := y) (by simpa using h)
  subst h1
  obtain ⟨a0, a1, a2, a3, a4, a5, a6, a7⟩ := this
  have hten : ∀ (u0 u1 u2 u3 u4 u5 u6 u7 u8 u9 : Value) (l : List Value) (n : Nat), (u0 :: u1 :: u2 :: u3 :: u4 :: u5 :: u6 :: u7 :: u8 :: u9 :: l)[n + 10]? = l[n]? := fun _ _ _ _ _ _ _ _ _ _ _ _ => rfl
  refine ⟨?_, ?_, ?_, ?_, ?_, ?_, ?_, ?_⟩
  ·rw [show 10 * (i + 1) = 10 * i + 10 by omega, hten]; exact a0
  ·rw [show 10 * (i + 1) + 1 = 10 * i + 1 + 10 by omega, hten]; exact a1
  ·rw [show 10 * (i + 1) + 2 = 10 * i + 2 + 10 by omega, hten]; exact a2
  ·rw [show 10 * (i + 1) + 3 = 10 * i + 3 + 10 by omega, hten]; exact a3
  ·rw [show 10 * (i + 1) + 4 = 10 * i + 4 + 10 by omega, hten]; exact a4
  ·rw [show 10 * (i + 1) + 5 = 10 * i + 5 + 10 by omega, hten]; exact a5
  ·rw [show 10 * (i + 1) + 6 = 10 * i + 6 + 10 by omega, hten]; exact a6
  ·rw [show 10 * (i + 1) + 7 = 10 * i + 7 + 10 by omega, hten]; exact a7
end Go.Proofs.YtgifeilmidpkeaaGreat.sc

namespace Go.Proofs.YtgifeilmidpkeaaGreat.sc
open Go.RowKit mem base disk geom
open record (Rc)
theorem follow_size {D : Dk} (hD : D.ok) {a z : Int} {p : Ps} {R : Rc} {sm e : Int} (h : follow D a z p = (some (R, sm), e)) : record.sizeOf (D.read (a + p.o)).2 = lenOf R := by
 have hin := follow_in h
 unfold follow at h
 rw [if_neg (by omega)] at h
 split at h
 ·cases h
 split at h
 ·cases h
 split at h
 ·cases h
 rename_i h1 h2 h3
 split at h
 ·rename_i h4
  obtain ⟨T, hT, hb, hd⟩ := record.decode_yes _ h4.1
  rw [hd] at h
  dsimp only at h
  injection h with h5 _
  injection h5 with h5
  injection h5 with h5 _
  subst h5
  have h6 := Rc.bytes_len hT
  rw [hb] at h6
  have h7 := (gat_len D hD (a + p.o) (record.sizeOf (D.read (a + p.o)).2)).1 (by simpa using h3)
  unfold lenOf
  omega
 ·cases h
theorem follow_one {D D' : Dk} (hD : D.ok) {a z : Int} {p : Ps} {R : Rc} {sm e : Int} (h : follow D a z p = (some (R, sm), e)) (h1 : lenOf R = 1) (hs : D'.read (a + p.o) = D.read (a + p.o)) : follow D' a z p = (some (R, sm), e) := by
 have hn := follow_size hD h
 rw [h1] at hn
 have hg : gat D' (a + p.o) 1 = gat D (a + p.o) 1 := gat_same 1 (fun i hi => by
  obtain rfl : i = 0 := by omega
  simpa using hs)
 unfold follow at h ⊢
 rw [hs, hn, hg]
 rw [hn] at h
 exact h
theorem recs_s {D : Dk} {a z : Int} : ∀ (f : Nat) (p : Ps), ∀ y ∈ (recs D a z f p).1, y.1.s = p.s
 | 0, p => by simp [recs]
 | f + 1, p => by
  unfold recs
  rcases hf : follow D a z p with ⟨o, e⟩
  cases o with
  | none => simp
  | some y =>
   obtain ⟨R0, s0⟩ := y
   dsimp only
   by_cases hn : hasNext R0 = true
   ·rw [if_pos hn]
    intro y hy
    rw [List.mem_singleton.1 hy]
   ·rw [if_neg hn]
    intro y hy
    rcases List.mem_cons.1 hy with rfl | hy
    ·rfl
    ·have := recs_s f (behind p R0 s0) y hy
     exact this
theorem recs_cut {D D' : Dk} (hD : D.ok) {a z : Int} : ∀ (f : Nat) (p : Ps) (k : Nat) (y : Ps × Rc) (e : Int), (recs D a z f p).1[k]? = some y → follow D' a z y.1 = (none, e) → (∀ (i : Nat) (x : Ps × Rc), i < k → (recs D a z f p).1[i]? = some x → lenOf x.2 = 1 ∧ D'.read (a + x.1.o) = D.read (a + x.1.o)) →
  recs D' a z f p = ((recs D a z f p).1.take k, y.1, e)
 | 0, p, k, y, e, h, _, _ => by simp [recs] at h
 | f + 1, p, k, y, e, h, hf', hs => by
  unfold recs at h hs ⊢
  rcases hf : follow D a z p with ⟨o, er⟩
  rw [hf] at h hs
  cases o with
  | none => simp at h
  | some w =>
   obtain ⟨R0, s0⟩ := w
   dsimp only at h hs ⊢
   cases k with
   | zero =>
    have hy : y = (p, R0) := by
     by_cases hn : hasNext R0 = true
     ·rw [if_pos hn] at h; simp at h; exact h.symm
     ·rw [if_neg hn] at h; simp at h; exact h.symm
    subst hy
    rw [show follow D' a z p = (none, e) from hf']
    simp
   | succ k =>
    by_cases hn : hasNext R0 = true
    ·rw [if_pos hn] at h
     simp at h
    ·rw [if_neg hn] at h hs ⊢
     obtain ⟨h1, h2⟩ := hs 0 (p, R0) (by omega) (by simp)
     rw [follow_one hD hf h1 h2]
     dsimp only
     rw [if_neg hn]
     have := recs_cut hD f (behind p R0 s0) k y e (by simpa using h) hf' (fun i x hi hx => hs (i + 1) x (by omega) (by simpa using hx))
     rw [this]
     rfl
theorem recs_next {D : Dk} {a z : Int} : ∀ (f : Nat) (p : Ps) (i : Nat) (x : Ps × Rc), (recs D a z f p).1[i]? = some x → hasNext x.2 = true → (recs D a z f p).1.length = i + 1
 | 0, p, i, x, h, _ => by simp [recs] at h
 | f + 1, p, i, x, h, hx => by
  unfold recs at h ⊢
  rcases hf : follow D a z p with ⟨o, e⟩
  rw [hf] at h
  cases o with
  | none => simp at h
  | some w =>
   obtain ⟨R0, s0⟩ := w
   dsimp only at h ⊢
   by_cases hn : hasNext R0 = true
   ·rw [if_pos hn] at h ⊢
    cases i with
    | zero => rfl
    | succ i => simp at h
   ·rw [if_neg hn] at h ⊢
    cases i with
    | zero =>
     simp at h
     rw [← h] at hx
     exact absurd hx hn
    | succ i =>
     have := recs_next f _ i x (by simpa using h) hx
     simp only [List.length_cons]
     omega
theorem recs_all {D D' : Dk} (hD : D.ok) {a z : Int} : ∀ (f : Nat) (p : Ps), (∀ x ∈ (recs D a z f p).1, lenOf x.2 = 1 ∧ D'.read (a + x.1.o) = D.read (a + x.1.o)) → (∃ x ∈ (recs D a z f p).1, hasNext x.2 = true) → recs D' a z f p = recs D a z f p
 | 0, p, _, h => by simp [recs] at h
 | f + 1, p, hs, h => by
  unfold recs at h hs ⊢
  rcases hf : follow D a z p with ⟨o, er⟩
  rw [hf] at h hs
  cases o with
  | none => simp at h
  | some w =>
   obtain ⟨R0, s0⟩ := w
   dsimp only at h hs ⊢
   by_cases hn : hasNext R0 = true
   ·rw [if_pos hn] at h hs ⊢
    obtain ⟨h1, h2⟩ := hs (p, R0) (by simp)
    rw [follow_one hD hf h1 h2]
    dsimp only
    rw [if_pos hn]
   ·rw [if_neg hn] at h hs ⊢
    obtain ⟨h1, h2⟩ := hs (p, R0) (by simp)
    rw [follow_one hD hf h1 h2]
    dsimp only
    rw [if_neg hn]
    rw [recs_all hD f (behind p R0 s0) (fun x hx => hs x (by simp [hx])) (by
     obtain ⟨x, hx, hx2⟩ := h
     rcases List.mem_cons.1 hx with rfl | hx
     ·exact absurd hx2 hn
     ·exact ⟨x, hx, hx2⟩)]
theorem start_alike {D D' : Dk} {a z : Int} {p : Ps} {hb : Bool} (h : p.o = 0 → 0 < z → D'.read a = D.read a) : start D' a z p hb = start D a z p hb := by
 by_cases h0 : p.o ≠ 0
 ·unfold start; rw [if_pos h0, if_pos h0]
 ·by_cases h1 : z ≤ 0
  ·unfold start; rw [if_neg h0, if_neg h0, if_pos h1, if_pos h1]
  ·unfold start
   rw [h (by omega) (by omega)]
theorem seg_cut {D D' : Dk} (hD : D.ok) {s l r q : Int} {p : Ps} {L : List (Ps × Rc)} {E : Ps} {err : Int} (h : segOf D s l r q p = (L, E, err)) {k : Nat} {y : Ps × Rc} {e : Int} (hk : L[k]? = some y) (hf : follow D' (ofSeg none s l r q p.s).2.1 (ofSeg none s l r q p.s).2.2 y.1 = (none, e))
  (hs : ∀ (i : Nat) (x : Ps × Rc), i < k → L[i]? = some x → lenOf x.2 = 1 ∧ D'.read ((ofSeg none s l r q p.s).2.1 + x.1.o) = D.read ((ofSeg none s l r q p.s).2.1 + x.1.o)) (hh : p.o = 0 → 0 < (ofSeg none s l r q p.s).2.2 → D'.read (ofSeg none s l r q p.s).2.1 = D.read (ofSeg none s l r q p.s).2.1) :
  segOf D' s l r q p = (L.take k, y.1, e) ∧ ∃ at_, Stand D' (ofSeg none s l r q p.s).2.1 (ofSeg none s l r q p.s).2.2 s p (L.take k) at_ false := by
 unfold segOf at h ⊢
 have hscan : scanOf D' (ofSeg none s l r q p.s).2.1 (ofSeg none s l r q p.s).2.2 p false = (L.take k, y.1, e) ∧ ∀ (i : Nat) (x : Ps × Rc), L[i]? = some x → hasNext x.2 = true → L.length = i + 1 := by
  unfold scanOf at h ⊢
  rw [start_alike hh]
  rcases hst : start D (ofSeg none s l r q p.s).2.1 (ofSeg none s l r q p.s).2.2 p false with ⟨o, e0⟩
  rw [hst] at h
  cases o with
  | none =>
   dsimp only at h
   injection h with h1 _
   rw [← h1] at hk
   simp at hk
  | some x =>
   dsimp only at h ⊢
   have hl : L = (recs D (ofSeg none s l r q p.s).2.1 (ofSeg none s l r q p.s).2.2 (ofSeg none s l r q p.s).2.2.toNat x).1 := by rw [h]
   rw [hl] at hk hs ⊢
   exact ⟨recs_cut hD _ x k y e hk hf hs, fun i w hw hn => recs_next _ _ i w hw hn⟩
 refine ⟨hscan.1, ?_⟩
 rcases List.eq_nil_or_concat (L.take k) with h0 | ⟨pre, ⟨pk, R⟩, h0⟩
 ·rw [h0]
  exact ⟨p, .nil⟩
 ·rw [List.concat_eq_append] at h0
  obtain ⟨sm, h1, _, _⟩ := scan_end hscan.1 h0
  have hkl : k < L.length := by
   obtain ⟨h2, _⟩ := List.getElem?_eq_some_iff.1 hk
   exact h2
  have hlen : pre.length + 1 = k := by
   have := congrArg List.length h0
   rw [List.length_take, List.length_append, List.length_singleton] at this
   omega
  have hR : L[pre.length]? = some (pk, R) := by
   have h3 : (L.take k)[pre.length]? = some (pk, R) := by rw [h0]; simp
   rw [List.getElem?_take_of_lt (by omega)] at h3
   exact h3
  have hn : hasNext R = false := by
   cases hx : hasNext R with
   | false => rfl
   | true =>
    have := hscan.2 _ _ hR hx
    omega
  have hst := Stand.snoc (D := D') (a := (ofSeg none s l r q p.s).2.1) (z := (ofSeg none s l r q p.s).2.2) (s := s) (p := p) pre pk R sm h1
  rw [stepOn_none hn] at hst
  rw [h0]
  exact ⟨_, hst⟩
theorem start_s {D : Dk} {a z : Int} {p x : Ps} {hb : Bool} {e : Int} (h : start D a z p hb = (some x, e)) : x.s = p.s := by
 unfold start at h
 split at h
 ·injection h with h1 _; injection h1 with h1; rw [← h1]
 ·split at h
  ·cases h
  ·split at h
   ·injection h with h1 _; injection h1 with h1; rw [← h1]
   ·cases h
theorem seg_s {D : Dk} {s l r q : Int} {p : Ps} {L : List (Ps × Rc)} {E : Ps} {err : Int} (h : segOf D s l r q p = (L, E, err)) : ∀ x ∈ L, x.1.s = p.s := by
 unfold segOf scanOf at h
 rcases hst : start D (ofSeg none s l r q p.s).2.1 (ofSeg none s l r q p.s).2.2 p false with ⟨o, e0⟩
 rw [hst] at h
 cases o with
 | none =>
  dsimp only at h
  injection h with h1 _
  rw [← h1]
  simp
 | some x =>
  dsimp only at h
  have hl : L = (recs D (ofSeg none s l r q p.s).2.1 (ofSeg none s l r q p.s).2.2 (ofSeg none s l r q p.s).2.2.toNat x).1 := by rw [h]
  intro y hy
  rw [hl] at hy
  rw [recs_s _ _ y hy, start_s hst]
theorem seg_all {D D' : Dk} (hD : D.ok) {s l r q : Int} {p : Ps} {L : List (Ps × Rc)} {E : Ps} {err : Int} (h : segOf D s l r q p = (L, E, err)) (hs : ∀ x ∈ L, lenOf x.2 = 1 ∧ D'.read ((ofSeg none s l r q p.s).2.1 + x.1.o) = D.read ((ofSeg none s l r q p.s).2.1 + x.1.o)) (hn : ∃ x ∈ L, hasNext x.2 = true)
  (hh : p.o = 0 → 0 < (ofSeg none s l r q p.s).2.2 → D'.read (ofSeg none s l r q p.s).2.1 = D.read (ofSeg none s l r q p.s).2.1) : segOf D' s l r q p = (L, E, err) := by
 unfold segOf scanOf at h ⊢
 rw [start_alike hh]
 rcases hst : start D (ofSeg none s l r q p.s).2.1 (ofSeg none s l r q p.s).2.2 p false with ⟨o, e0⟩
 rw [hst] at h
 cases o with
 | none => exact h
 | some x =>
  dsimp only at h ⊢
  have hl : L = (recs D (ofSeg none s l r q p.s).2.1 (ofSeg none s l r q p.s).2.2 (ofSeg none s l r q p.s).2.2.toNat x).1 := by rw [h]
  rw [hl] at hs hn
  rw [recs_all hD _ x hs hn]
  exact h
theorem Stand.onto {D D' : Dk} (hD : D.ok) {a z s : Int} {p at_ : Ps} {L : List (Ps × Rc)} {on : Bool} (hs : Stand D a z s p L at_ on) : on = true → (∀ x ∈ L, lenOf x.2 = 1 ∧ D'.read (a + x.1.o) = D.read (a + x.1.o)) → (∃ x ∈ L, hasNext x.2 = true) ∧ Stand D' a z s p L at_ on := by
 intro hon hall
 cases hs with
 | nil => cases hon
 | snoc pre pk R sm hf2 =>
  have h5 := stepOn_on (s := s) (p := behind pk R sm) (R := R) hon
  obtain ⟨h6, h7⟩ := hall (pk, R) (by simp)
  exact ⟨⟨(pk, R), by simp, h5.2.2.2.2.2⟩, .snoc pre pk R sm (follow_one hD hf2 h6 h7)⟩
theorem Logs.cut {D D' : Dk} (hD : D.ok) {s l r q t : Int} (hsame : ∀ x, x ≠ t → D'.read x = D.read x) (hheads : ∀ i, 0 < (ofSeg none s l r q i).2.2 → (ofSeg none s l r q i).2.1 ≠ t) {p : Ps} {L : List (Ps × Rc)} {E : Ps} {err : Int} (h : Logs D s l r q p L E err) :
  (∀ x ∈ L, lenOf x.2 = 1) → ∀ (k : Nat) (y : Ps × Rc) (e : Int), L[k]? = some y → follow D' (ofSeg none s l r q y.1.s).2.1 (ofSeg none s l r q y.1.s).2.2 y.1 = (none, e) → (∀ (i : Nat) (x : Ps × Rc), i < k → L[i]? = some x → (ofSeg none s l r q x.1.s).2.1 + x.1.o ≠ t) → Logs D' s l r q p (L.take k) y.1 e := by
 induction h with
 | last p L E err at_ h hs =>
  intro hone k y e hk hf hel
  have hys := seg_s h y (List.mem_of_getElem? hk)
  rw [hys] at hf
  obtain ⟨h1, at2, h2⟩ := seg_cut hD h hk hf (fun i x hi hx => ⟨hone x (List.mem_of_getElem? hx), hsame _ (by have := hel i x hi hx; rwa [seg_s h x (List.mem_of_getElem? hx)] at this)⟩) (fun _ hz => hsame _ (hheads _ hz))
  exact .last p _ _ _ at2 h1 h2
 | more p L E err at_ L2 E2 err2 h hs h2 ih =>
  intro hone k y e hk hf hel
  by_cases hkl : k < L.length
  ·rw [List.getElem?_append_left hkl] at hk
   have hys := seg_s h y (List.mem_of_getElem? hk)
   rw [hys] at hf
   obtain ⟨h1, at2, h3⟩ := seg_cut hD h hk hf (fun i x hi hx => ⟨hone x (List.mem_append_left _ (List.mem_of_getElem? hx)), hsame _ (by have := hel i x hi (by rw [List.getElem?_append_left (by omega)]; exact hx); rwa [seg_s h x (List.mem_of_getElem? hx)] at this)⟩) (fun _ hz => hsame _ (hheads _ hz))
   rw [List.take_append_of_le_length (by omega)]
   exact .last p _ _ _ at2 h1 h3
  ·rw [List.getElem?_append_right (by omega)] at hk
   have hall : ∀ x ∈ L, lenOf x.2 = 1 ∧ D'.read ((ofSeg none s l r q p.s).2.1 + x.1.o) = D.read ((ofSeg none s l r q p.s).2.1 + x.1.o) := fun x hx => by
    obtain ⟨i, hi⟩ := List.getElem?_of_mem hx
    obtain ⟨hi2, _⟩ := List.getElem?_eq_some_iff.1 hi
    refine ⟨hone x (List.mem_append_left _ hx), hsame _ ?_⟩
    have := hel i x (by omega) (by rw [List.getElem?_append_left hi2]; exact hi)
    rwa [seg_s h x hx] at this
   have hst : (∃ x ∈ L, hasNext x.2 = true) ∧ Stand D' (ofSeg none s l r q p.s).2.1 (ofSeg none s l r q p.s).2.2 s p L at_ true := hs.onto hD rfl hall
   have h1 := seg_all hD h hall hst.1 (fun _ hz => hsame _ (hheads _ hz))
   have h3 := ih (fun x hx => hone x (List.mem_append_right _ hx)) (k - L.length) y e hk hf (fun i x hi hx => hel (i + L.length) x (by omega) (by rw [List.getElem?_append_right (by omega), show i + L.length - L.length = i by omega]; exact hx))
   rw [List.take_append, List.take_of_length_le (by omega)]
   exact .more p L E err at_ _ _ _ h1 hst.2 h3
theorem follow_dec {D : Dk} (hD : D.ok) {a z : Int} {p : Ps} {R : Rc} {sm e : Int} (h : follow D a z p = (some (R, sm), e)) (h1 : lenOf R = 1) : (record.decode (D.read (a + p.o)).2).1 = R := by
 have hn := follow_size hD h
 rw [h1] at hn
 have hin := follow_in h
 unfold follow at h
 rw [if_neg (by omega), hn, gat_one] at h
 dsimp only at h
 split at h
 ·cases h
 split at h
 ·cases h
 split at h
 ·injection h with h2 _
  injection h2 with h2
  injection h2 with h2 _
 ·cases h
theorem recs_follow {D : Dk} (hD : D.ok) {a z : Int} : ∀ (f : Nat) (p : Ps), ∀ y ∈ (recs D a z f p).1, ∃ sm, follow D a z y.1 = (some (y.2, sm), 0)
 | 0, p => by simp [recs]
 | f + 1, p => by
  unfold recs
  rcases hf : follow D a z p with ⟨o, e⟩
  cases o with
  | none => simp
  | some y =>
   obtain ⟨R0, s0⟩ := y
   have he := (follow_ok hD hf).2.2.1
   dsimp only
   by_cases hn : hasNext R0 = true
   ·rw [if_pos hn]
    intro y hy
    rw [List.mem_singleton.1 hy]
    exact ⟨s0, by rw [hf, he]⟩
   ·rw [if_neg hn]
    intro y hy
    rcases List.mem_cons.1 hy with rfl | hy
    ·exact ⟨s0, by rw [hf, he]⟩
    ·exact recs_follow hD f _ y hy
theorem Logs.follows {D : Dk} (hD : D.ok) {s l r q : Int} {p : Ps} {L : List (Ps × Rc)} {E : Ps} {err : Int} (h : Logs D s l r q p L E err) : ∀ y ∈ L, ∃ sm, follow D (ofSeg none s l r q y.1.s).2.1 (ofSeg none s l r q y.1.s).2.2 y.1 = (some (y.2, sm), 0) := by
 have one : ∀ {p : Ps} {L : List (Ps × Rc)} {E : Ps} {err : Int}, segOf D s l r q p = (L, E, err) → ∀ y ∈ L, ∃ sm, follow D (ofSeg none s l r q y.1.s).2.1 (ofSeg none s l r q y.1.s).2.2 y.1 = (some (y.2, sm), 0) := fun {p L E err} h y hy => by
  rw [seg_s h y hy]
  unfold segOf scanOf at h
  rcases hst : start D (ofSeg none s l r q p.s).2.1 (ofSeg none s l r q p.s).2.2 p false with ⟨o, e0⟩
  rw [hst] at h
  cases o with
  | none =>
   dsimp only at h
   injection h with h1 _
   rw [← h1] at hy
   simp at hy
  | some x =>
   dsimp only at h
   have hl : L = (recs D (ofSeg none s l r q p.s).2.1 (ofSeg none s l r q p.s).2.2 (ofSeg none s l r q p.s).2.2.toNat x).1 := by rw [h]
   rw [hl] at hy
   exact recs_follow hD _ x y hy
 induction h with
 | last p L E err at_ h hs => exact one h
 | more p L E err at_ L2 E2 err2 h hs h2 ih =>
  intro y hy
  rcases List.mem_append.1 hy with hy | hy
  ·exact one h y hy
  ·exact ih y hy
theorem Logs.apart {D : Dk} (hD : D.ok) {s l r q : Int} {p : Ps} {L : List (Ps × Rc)} {E : Ps} {err : Int} (h : Logs D s l r q p L E err) (hone : ∀ x ∈ L, lenOf x.2 = 1) {i k : Nat} {x y : Ps × Rc} (hik : i < k) (hx : L[i]? = some x) (hy : L[k]? = some y) : (ofSeg none s l r q x.1.s).2.1 + x.1.o ≠ (ofSeg none s l r q y.1.s).2.1 + y.1.o := by
 intro he
 obtain ⟨sx, fx⟩ := h.follows hD x (List.mem_of_getElem? hx)
 obtain ⟨sy, fy⟩ := h.follows hD y (List.mem_of_getElem? hy)
 have dx := follow_dec hD fx (hone x (List.mem_of_getElem? hx))
 have dy := follow_dec hD fy (hone y (List.mem_of_getElem? hy))
 rw [he, dy] at dx
 have nx := ((h.nums hD).2 i x hx).1
 have ny := ((h.nums hD).2 k y hy).1
 rw [dx] at ny
 omega
end Go.Proofs.YtgifeilmidpkeaaGreat.sc

namespace Go.Proofs.YtgifeilmidpkeaaGreat.sc
open Go.RowKit mem base disk geom
open record (Rc)
theorem of_pos {s l r q i : Int} {o : Int} (h : 1 ≤ o ∧ o < (ofSeg none s l r q i).2.2) : 0 ≤ i ∧ i ≤ s - 1 := by
 by_cases hi : 0 ≤ i ∧ i ≤ s - 1
 ·exact hi
 ·unfold ofSeg at h
  rw [if_neg hi] at h
  dsimp only at h
  omega
theorem follow_bytes {D : Dk} (hD : D.ok) {a z : Int} {p : Ps} {R : Rc} {sm e : Int} (h : follow D a z p = (some (R, sm), e)) (h1 : lenOf R = 1) : (D.read (a + p.o)).2 = R.bytes := by
 have hn := follow_size hD h
 rw [h1] at hn
 have hin := follow_in h
 unfold follow at h
 rw [if_neg (by omega), hn, gat_one] at h
 dsimp only at h
 split at h
 ·cases h
 split at h
 ·cases h
 split at h
 ·rename_i h4
  obtain ⟨T, hT, hb, hd⟩ := record.decode_yes _ h4.1
  rw [hd] at h
  dsimp only at h
  injection h with h5 _
  injection h5 with h5
  injection h5 with h5 _
  subst h5
  exact hb.symm
 ·cases h
theorem Rung.at_ {D : Dk} {r q : Int} {p0 E : Ps} {L : List (Ps × Rc)} {n : Nat} (hr : 0 ≤ r ∧ 0 ≤ q) (hn : 2 + 2 * r + 4 * q + 8 * 24 ≤ (n : Int)) (h : Rung D r q p0 L E n) {y : Ps × Rc} (hy : y ∈ L) :
  ∃ t : Nat, t < D.n ∧ 2 + 2 * r + 4 * q + y.1.s * 24 + y.1.o = (t : Int) ∧ (0 ≤ y.1.s ∧ y.1.s ≤ 7) ∧ (1 ≤ y.1.o ∧ y.1.o ≤ 23) ∧ ∃ sm, follow D (2 + 2 * r + 4 * q + y.1.s * 24) 24 y.1 = (some (y.2, sm), 0) := by
 obtain ⟨sm, hf⟩ := h.logs.follows h.reads.ok y hy
 have h1 := follow_in hf
 have h2 := of_pos h1
 rw [of24 hr (by omega)] at h1 hf
 have h3 := fst24 (i := y.1.s) hr h2.1
 dsimp only at h1 hf
 have h4 := h.size
 refine ⟨(2 + 2 * r + 4 * q + y.1.s * 24 + y.1.o).toNat, by omega, by omega, by omega, by omega, sm, ?_⟩
 rw [← h3]
 exact hf
theorem heads_off {r q : Int} (hr : 0 ≤ r ∧ 0 ≤ q) {x o : Int} {t : Nat} (hx : 0 ≤ x ∧ x ≤ 7) (ho : 1 ≤ o ∧ o ≤ 23) (ht : 2 + 2 * r + 4 * q + x * 24 + o = (t : Int)) : ∀ i, 0 < (ofSeg none 8 24 r q i).2.2 → (ofSeg none 8 24 r q i).2.1 ≠ (t : Int) := by
 intro i hi
 by_cases h : 0 ≤ i ∧ i ≤ 8 - 1
 ·rw [of24 hr (by omega)]
  have h3 := fst24 (i := i) hr h.1
  dsimp only
  omega
 ·unfold ofSeg at hi
  rw [if_neg h] at hi
  dsimp only at hi
  omega
end Go.Proofs.YtgifeilmidpkeaaGreat.sc

namespace Go.Proofs.YtgifeilmidpkeaaGreat.sc
open Go.RowKit mem base disk geom
open record (Rc)
theorem ticked_acts (D : Dk) : D.ticked.acts = D.acts + 1 := by unfold Dk.ticked; split <;> rfl
theorem write_acts (D : Dk) (x : Int) (b : List UInt8) : (D.write x b).2.acts ≤ D.acts + 1 := by
 have := ticked_acts D
 unfold Dk.write
 split
 ·split
  ·show D.ticked.acts ≤ _; omega
  ·show D.ticked.acts ≤ _; omega
 ·show D.acts ≤ _; omega
theorem flush_acts (D : Dk) : D.flush.2.acts ≤ D.acts + 1 := by
 have := ticked_acts D
 unfold Dk.flush
 split
 ·show D.ticked.acts ≤ _; omega
 ·show D.ticked.acts ≤ _; omega
theorem putk_acts (D : Dk) (a : Int) (bs : List UInt8) : ∀ k, (putk D a bs k).acts ≤ D.acts + k
 | 0 => Nat.le_refl _
 | k + 1 => by
  have h1 := putk_acts D a bs k
  have h2 := write_acts (putk D a bs k) (a + k) (disk.sec bs k)
  unfold putk
  omega
theorem put_acts (D : Dk) (a : Int) (bs : List UInt8) (h : bs.length = 64) : (putD D a bs).acts ≤ D.acts + 2 := by
 have h1 := putk_acts D a bs (bs.length / 64)
 have h2 := flush_acts (putk D a bs (bs.length / 64))
 have h3 : bs.length / 64 = 1 := by rw [h]
 unfold putD
 rw [h3] at h1 h2 ⊢
 omega
theorem one_bytes (R : Rc) (h : R.its.length ≤ 6) (hb : R.bks = []) : R.bytes.length = 64 := by
 rw [Rc.bytes, List.length_append, R.first_len h, Rc.tail, hb]
 rfl
theorem kz_bytes (p : Ps) : (kmade p kz).bytes.length = 64 := one_bytes _ (show (kitAll kz.ks (kz.fill % 1000).toNat).length ≤ 6 by decide) rfl
theorem next_bytes (p : Ps) (v : Int) : (nextR p v).bytes.length = 64 := one_bytes _ (by simp [nextR]) rfl
theorem logz_acts (a : Nat) (z : Int) : ∀ (m : Nat) (D : Dk) (p : Ps), (logD D a z p (List.replicate m kz)).1.acts ≤ D.acts + 2 * m
 | 0, D, p => by simp [logD]
 | m + 1, D, p => by
  rw [List.replicate_succ]
  unfold logD
  split
  ·show D.acts ≤ _; omega
  ·have h1 := logz_acts a z m (putD D (a + p.o.toNat) (kmade p kz).bytes) ⟨p.s, p.o + lenOf (kmade p kz), (kmade p kz).l + 1, (kmade p kz).sum, (kmade p kz).m⟩
   have h2 := put_acts D (a + p.o.toNat) (kmade p kz).bytes (kz_bytes p)
   omega
theorem turn_acts (D : Dk) (a a2 : Nat) (p : Ps) (nx : Int) (hb : Bool) : (turnD D a a2 p nx hb).1.acts ≤ D.acts + 4 := by
 have h1 := put_acts D ((a + p.o.toNat : Nat) : Int) (nextR p nx).bytes (next_bytes p nx)
 unfold turnD
 split
 ·have h2 := put_acts (putD D ((a + p.o.toNat : Nat) : Int) (nextR p nx).bytes) (a2 : Int) (headOf (turnTo p nx)).bytes (hd.Hd.bytes_len _)
  dsimp only
  omega
 ·dsimp only
  omega
theorem laidz_acts (s l r q : Int) (e : Nat) : ∀ (ts : List Pt) (D : Dk) (p : Ps), (∀ t ∈ ts, ∃ m, m ≤ e ∧ t.rs = List.replicate m kz) → (laidL s l r q D p ts).1.acts ≤ D.acts + ts.length * (2 * e + 4)
 | [], D, p, _ => by simp [laidL]
 | [t], D, p, h => by
  obtain ⟨m, hm, hr⟩ := h t (by simp)
  have h1 := logz_acts (fst l r q p.s) l m D p
  rw [laidL, hr]
  simp only [List.length_singleton, Nat.one_mul]
  omega
 | t :: u :: ts, D, p, h => by
  obtain ⟨m, hm, hr⟩ := h t (by simp)
  have h1 := logz_acts (fst l r q p.s) l m D p
  have h2 := fun hb => turn_acts (logD D (fst l r q p.s) l p (List.replicate m kz)).1 (fst l r q p.s) (fst l r q (t.nx % s)) (logD D (fst l r q p.s) l p (List.replicate m kz)).2 (t.nx % s) hb
  have h3 := laidz_acts s l r q e (u :: ts) (turnD (logD D (fst l r q p.s) l p (List.replicate m kz)).1 (fst l r q p.s) (fst l r q (t.nx % s)) (logD D (fst l r q p.s) l p (List.replicate m kz)).2 (t.nx % s) true).1 (turnD (logD D (fst l r q p.s) l p (List.replicate m kz)).1 (fst l r q p.s) (fst l r q (t.nx % s)) (logD D (fst l r q p.s) l p (List.replicate m kz)).2 (t.nx % s) true).2 (fun x hx => h x (by simp at hx ⊢; exact .inr hx))
  have h4 : (t :: u :: ts).length * (2 * e + 4) = (u :: ts).length * (2 * e + 4) + (2 * e + 4) := by rw [List.length_cons, Nat.succ_mul]
  have h5 : 0 ≤ (u :: ts).length * (2 * e + 4) := Nat.zero_le _
  generalize (u :: ts).length * (2 * e + 4) = X at h3 h4 h5
  rw [laidL, hr, h4]
  split
  ·have := h2 false
   omega
  ·have := h2 true
   omega
theorem ringL_kz (e : Nat) : ∀ (cap left : Nat) (sg : Int), ∀ t ∈ ringL e cap left sg, ∃ m, m ≤ e ∧ t.rs = List.replicate m kz
 | 0, _, _ => by simp [ringL]
 | cap + 1, left, sg => by
  unfold ringL
  split
  ·simp
  ·intro t ht
   rcases List.mem_cons.1 ht with rfl | ht
   ·exact ⟨min left e, Nat.min_le_right _ _, rfl⟩
   ·exact ringL_kz e cap _ _ t ht
theorem ring_acts (r q : Int) (N : Nat) (p : Ps) (e k : Nat) (he : e ≤ 20) : (laidP 8 24 r q (Dk.new N) p (ringL e 8 k p.s)).1.acts ≤ 400 := by
 have h1 := laidz_acts 8 24 r q e (ringL e 8 k p.s) (putD (Dk.new N) (fst 24 r q p.s : Int) (headOf p).bytes) ⟨p.s, 1, p.l, p.v, p.m⟩ (ringL_kz e 8 k p.s)
 have h2 := put_acts (Dk.new N) (fst 24 r q p.s : Int) (headOf p).bytes (hd.Hd.bytes_len _)
 have h3 := ringL_len e 8 k p.s
 have h4 : (ringL e 8 k p.s).length * (2 * e + 4) ≤ 8 * 44 := Nat.mul_le_mul h3 (by omega)
 have h5 : (Dk.new N).acts = 0 := rfl
 unfold laidP
 omega
theorem Rung.flip {D : Dk} {r q : Int} {p0 E : Ps} {L : List (Ps × Rc)} {n : Nat} (hr : 0 ≤ r ∧ 0 ≤ q) (hn : 2 + 2 * r + 4 * q + 8 * 24 ≤ (n : Int)) (h : Rung D r q p0 L E n) {k : Nat} {y : Ps × Rc} (hy : L[k]? = some y) (bit : Nat) (hbit : bit < 512) :
  ∃ t : Nat, t < D.n ∧ 2 + 2 * r + 4 * q + y.1.s * 24 + y.1.o = (t : Int) ∧ (0 ≤ y.1.s ∧ y.1.s ≤ 7) ∧ (1 ≤ y.1.o ∧ y.1.o ≤ 23) ∧
   ∀ b' : List UInt8, b' = (disk.sec D.now t).set (bit / 8) (UInt8.ofNat (((disk.sec D.now t).getD (bit / 8) 0).toNat ^^^ 2 ^ (bit % 8))) → (D.write (t : Int) b').1 = 0 ∧ Reads (D.write (t : Int) b').2 ∧ Logs (D.write (t : Int) b').2 8 24 r q p0 (L.take k) y.1 0 := by
 obtain ⟨t, t1, t2, t3, t4, sm, t5⟩ := h.at_ hr hn (List.mem_of_getElem? hy)
 have h3 := fst24 (i := y.1.s) hr t3.1
 have hone := h.one y (List.mem_of_getElem? hy)
 have hb := follow_bytes h.reads.ok t5 hone
 rw [t2, h.reads.read t t1] at hb
 dsimp only at hb
 have hok := ((h.logs.nums h.reads.ok).2 k y hy).2.2.2
 refine ⟨t, t1, t2, t3, t4, fun b' hb' => ?_⟩
 have hl64 := h.reads.sec t t1
 obtain ⟨e1, e2, e3, e4, e5⟩ := write_reads h.reads t b' t1 (by rw [hb', List.length_set]; exact hl64)
 refine ⟨e1, e2, ?_⟩
 have hsame : ∀ x, x ≠ (t : Int) → (D.write (t : Int) b').2.read x = D.read x := fun x hx => by
  by_cases hin : 0 ≤ x ∧ x < D.n
  ·obtain ⟨i, rfl⟩ : ∃ i : Nat, x = (i : Int) := ⟨x.toNat, by omega⟩
   rw [e2.read i (by rw [e3]; omega), h.reads.read i (by omega), e5 i (by omega), if_neg (by omega)]
  ·unfold Dk.read
   have g1 : D.has x = false := by unfold Dk.has; exact decide_eq_false hin
   have g2 : (D.write (t : Int) b').2.has x = false := by unfold Dk.has; rw [e3]; exact decide_eq_false hin
   rw [g1, g2]
   rfl
 have hz := h.size
 refine Logs.cut h.reads.ok (t := t) hsame (heads_off hr t3 t4 t2) h.logs h.one k y 0 hy ?_ ?_
 ·rw [of24 hr t3]
  dsimp only
  refine follow_flip e2 (fst 24 r q y.1.s) 24 y.1 y.2 bit t (by omega) (by rw [hone]; omega) (by rw [e3]; omega) hok (fun i hi => ?_) (by rw [hone]; omega)
  rw [hone] at hi
  obtain rfl : i = 0 := by omega
  have hs0 : disk.sec y.2.bytes 0 = disk.sec D.now t := by
   rw [hb, ← hb]
   unfold disk.sec
   rw [Nat.mul_zero, List.drop_zero, List.take_of_length_le]
   have := hl64
   unfold disk.sec at this
   rw [this]
   exact Nat.le_refl _
  rw [Nat.add_zero, e5 t t1, if_pos rfl, sec_flip, if_pos (by omega), hb', hs0, show bit / 8 % 64 = bit / 8 by omega]
  congr 3
  rw [← hb]
 ·intro i x hi hx
  have := Logs.apart h.reads.ok h.logs h.one hi hx hy
  rw [of24 hr t3] at this
  dsimp only at this
  rw [h3, t2] at this
  exact this
end Go.Proofs.YtgifeilmidpkeaaGreat.sc
