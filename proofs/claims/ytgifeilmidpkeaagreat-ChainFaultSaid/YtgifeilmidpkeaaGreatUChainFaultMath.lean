import Derived.Test.YtgifeilmidpkeaaGreatUChainAwake
namespace Go.Proofs.YtgifeilmidpkeaaGreat.sc
set_option linter.unusedVariables false
open Go.RowKit mem base disk geom
open record (Rc)
theorem recs_fit {D : Dk} (hD : D.ok) {a z : Int} : ∀ (f : Nat) (p : Ps), ∀ y ∈ (recs D a z f p).1, fits y.2 y.1 = true
 | 0, p => by simp [recs]
 | f + 1, p => by
  unfold recs
  rcases hf : follow D a z p with ⟨o, e⟩
  cases o with
  | none => simp
  | some y =>
   obtain ⟨R0, s0⟩ := y
   obtain ⟨h1, _, _, h4, _⟩ := follow_ok hD hf
   dsimp only
   by_cases hn : hasNext R0 = true
   ·rw [if_pos hn]
    intro y hy
    rw [List.mem_singleton.1 hy]
    exact h4
   ·rw [if_neg hn]
    intro y hy
    rcases List.mem_cons.1 hy with rfl | hy
    ·exact h4
    ·exact recs_fit hD f _ y hy
def NumL (p : Ps) (L : List (Ps × Rc)) (E : Ps) : Prop := E.l = p.l + L.length ∧ ∀ (i : Nat) (y : Ps × Rc), L[i]? = some y → y.2.l = p.l + i ∧ y.1.l = y.2.l ∧ y.1.v = y.2.p ∧ y.2.ok
theorem seg_num {D : Dk} (hD : D.ok) {s l r q : Int} {p : Ps} {L : List (Ps × Rc)} {E : Ps} {err : Int} (h : segOf D s l r q p = (L, E, err)) : NumL p L E := by
 unfold segOf scanOf at h
 rcases hst : start D (ofSeg none s l r q p.s).2.1 (ofSeg none s l r q p.s).2.2 p false with ⟨o, e⟩
 rw [hst] at h
 cases o with
 | none =>
  dsimp only at h
  injection h with h1 h2
  injection h2 with h2 _
  subst h1 h2
  exact ⟨by simp, by simp⟩
 | some x =>
  dsimp only at h
  have hxl : x.l = p.l := by
   unfold start at hst
   split at hst
   ·injection hst with h1 _
    injection h1 with h1
    rw [← h1]
   ·split at hst
    ·cases hst
    ·split at hst
     ·rename_i h5
      injection hst with h1 _
      injection h1 with h1
      rw [← h1]
      have h6 := h5.2.resolve_left (by simp)
      unfold hd.fits at h6
      simp at h6
      exact h6.2.2.1
     ·cases hst
  obtain ⟨n1, n2⟩ := recs_num hD (ofSeg none s l r q p.s).2.2.toNat x (a := (ofSeg none s l r q p.s).2.1) (z := (ofSeg none s l r q p.s).2.2)
  have n3 := recs_fit hD (ofSeg none s l r q p.s).2.2.toNat x (a := (ofSeg none s l r q p.s).2.1) (z := (ofSeg none s l r q p.s).2.2)
  rw [h] at n1 n2 n3
  refine ⟨by rw [n1, hxl], fun i y hy => ?_⟩
  obtain ⟨m1, m2⟩ := n2 i y hy
  have m3 := n3 y (List.mem_of_getElem? hy)
  unfold fits at m3
  simp at m3
  exact ⟨by rw [m1, hxl], m3.1.symm, m3.2.1.symm, m2⟩
theorem Logs.nums {D : Dk} (hD : D.ok) {s l r q : Int} {p : Ps} {L : List (Ps × Rc)} {E : Ps} {err : Int} (h : Logs D s l r q p L E err) : NumL p L E := by
 induction h with
 | last p L E err at_ h hs => exact seg_num hD h
 | more p L E err at_ L2 E2 err2 h hs h2 ih =>
  obtain ⟨a1, a2⟩ := seg_num hD h
  obtain ⟨b1, b2⟩ := ih
  obtain ⟨_, c1, _⟩ := hs.done h rfl
  refine ⟨by rw [b1, c1, a1, List.length_append]; omega, fun i y hy => ?_⟩
  by_cases hi : i < L.length
  ·rw [List.getElem?_append_left hi] at hy
   exact a2 i y hy
  ·rw [List.getElem?_append_right (by omega)] at hy
   obtain ⟨d1, d2⟩ := b2 _ y hy
   exact ⟨by rw [d1, c1, a1]; omega, d2⟩
theorem FncIn.at_ {w : World} {S : List Nat} : ∀ {l : List (Ps × Rc)} {xs : List Value} {i : Nat} {y : Ps × Rc}, FncIn w S l xs → l[i]? = some y → xs[10 * i]? = some (.int .i64 y.1.s) ∧ xs[10 * i + 1]? = some (.int .i64 y.1.o) ∧ xs[10 * i + 2]? = some (.int .i64 y.1.l) ∧ xs[10 * i + 3]? = some (.int .i64 y.1.v) ∧ xs[10 * i + 4]? = some (.int .i64 y.1.m) ∧ xs[10 * i + 5]? = some (.int .i64 y.2.m) ∧ xs[10 * i + 6]? = some (.int .i64 y.2.l) ∧ xs[10 * i + 7]? = some (.int .i64 y.2.p)
 | [], _, _, _, _, h => by simp at h
 | (pk, R) :: l, _, 0, y, ⟨L, m, c, P, n, d, rest, h1, h2, h3⟩, h => by
  simp at h
  subst h h1
  simp
 | (pk, R) :: l, _, i + 1, y, ⟨L, m, c, P, n, d, rest, h1, h2, h3⟩, h => by
  have := h3.at_ (i := i) (y := y) (by simpa using h)
  subst h1
  obtain ⟨a0, a1, a2, a3, a4, a5, a6, a7⟩ := this
  have hten : ∀ (u0 u1 u2 u3 u4 u5 u6 u7 u8 u9 : Value) (l : List Value) (n : Nat), (u0 :: u1 :: u2 :: u3 :: u4 :: u5 :: u6 :: u7 :: u8 :: u9 :: l)[n + 10]? = l[n]? := fun _ _ _ _ _ _ _ _ _ _ _ _ => rfl
  refine ⟨?_, ?_, ?_, ?_, ?_, ?_, ?_, ?_⟩
  ·rw [show 10 * (i + 1) = 10 * i + 10 by omega, hten]; exact a0
  ·rw [show 10 * (i + 1) + 1 = 10 * i + 1 + 10 by omega, hten]; exact a1
  ·rw [show 10 * (i + 1) + 2 = 10 * i + 2 + 10 by omega, hten]; exact a2
  ·rw [show 10 * (i + 1) + 3 = 10 * i + 3 + 10 by omega, hten]; exact a3
  ·rw [show 10 * (i + 1) + 4 = 10 * i + 4 + 10 by omega, hten]; exact a4
  ·rw [show 10 * (i + 1) + 5 = 10 * i + 5 + 10 by omega, hten]; exact a5
  ·rw [show 10 * (i + 1) + 6 = 10 * i + 6 + 10 by omega, hten]; exact a6
  ·rw [show 10 * (i + 1) + 7 = 10 * i + 7 + 10 by omega, hten]; exact a7
end Go.Proofs.YtgifeilmidpkeaaGreat.sc

namespace Go.Proofs.YtgifeilmidpkeaaGreat.sc
set_option linter.unusedVariables false
open Go.RowKit mem base disk geom
open record (Rc)
theorem follow_size {D : Dk} (hD : D.ok) {a z : Int} {p : Ps} {R : Rc} {sm e : Int} (h : follow D a z p = (some (R, sm), e)) : record.sizeOf (D.read (a + p.o)).2 = lenOf R := by
 have hin := follow_in h
 unfold follow at h
 rw [if_neg (by omega)] at h
 split at h
 ·cases h
 split at h
 ·cases h
 split at h
 ·cases h
 rename_i h1 h2 h3
 split at h
 ·rename_i h4
  obtain ⟨T, hT, hb, hd⟩ := record.decode_yes _ h4.1
  rw [hd] at h
  dsimp only at h
  injection h with h5 _
  injection h5 with h5
  injection h5 with h5 _
  subst h5
  have h6 := Rc.bytes_len hT
  rw [hb] at h6
  have h7 := (gat_len D hD (a + p.o) (record.sizeOf (D.read (a + p.o)).2)).1 (by simpa using h3)
  unfold lenOf
  omega
 ·cases h
theorem follow_one {D D' : Dk} (hD : D.ok) {a z : Int} {p : Ps} {R : Rc} {sm e : Int} (h : follow D a z p = (some (R, sm), e)) (h1 : lenOf R = 1) (hs : D'.read (a + p.o) = D.read (a + p.o)) : follow D' a z p = (some (R, sm), e) := by
 have hn := follow_size hD h
 rw [h1] at hn
 have hg : gat D' (a + p.o) 1 = gat D (a + p.o) 1 := gat_same 1 (fun i hi => by
  obtain rfl : i = 0 := by omega
  simpa using hs)
 unfold follow at h ⊢
 rw [hs, hn, hg]
 rw [hn] at h
 exact h
theorem recs_s {D : Dk} {a z : Int} : ∀ (f : Nat) (p : Ps), ∀ y ∈ (recs D a z f p).1, y.1.s = p.s
 | 0, p => by simp [recs]
 | f + 1, p => by
  unfold recs
  rcases hf : follow D a z p with ⟨o, e⟩
  cases o with
  | none => simp
  | some y =>
   obtain ⟨R0, s0⟩ := y
   dsimp only
   by_cases hn : hasNext R0 = true
   ·rw [if_pos hn]
    intro y hy
    rw [List.mem_singleton.1 hy]
   ·rw [if_neg hn]
    intro y hy
    rcases List.mem_cons.1 hy with rfl | hy
    ·rfl
    ·have := recs_s f (behind p R0 s0) y hy
     exact this
theorem recs_cut {D D' : Dk} (hD : D.ok) {a z : Int} : ∀ (f : Nat) (p : Ps) (k : Nat) (y : Ps × Rc) (e : Int), (recs D a z f p).1[k]? = some y → follow D' a z y.1 = (none, e) → (∀ (i : Nat) (x : Ps × Rc), i < k → (recs D a z f p).1[i]? = some x → lenOf x.2 = 1 ∧ D'.read (a + x.1.o) = D.read (a + x.1.o)) →
  recs D' a z f p = ((recs D a z f p).1.take k, y.1, e)
 | 0, p, k, y, e, h, _, _ => by simp [recs] at h
 | f + 1, p, k, y, e, h, hf', hs => by
  unfold recs at h hs ⊢
  rcases hf : follow D a z p with ⟨o, er⟩
  rw [hf] at h hs
  cases o with
  | none => simp at h
  | some w =>
   obtain ⟨R0, s0⟩ := w
   dsimp only at h hs ⊢
   cases k with
   | zero =>
    have hy : y = (p, R0) := by
     by_cases hn : hasNext R0 = true
     ·rw [if_pos hn] at h; simp at h; exact h.symm
     ·rw [if_neg hn] at h; simp at h; exact h.symm
    subst hy
    rw [show follow D' a z p = (none, e) from hf']
    simp
   | succ k =>
    by_cases hn : hasNext R0 = true
    ·rw [if_pos hn] at h
     simp at h
    ·rw [if_neg hn] at h hs ⊢
     obtain ⟨h1, h2⟩ := hs 0 (p, R0) (by omega) (by simp)
     rw [follow_one hD hf h1 h2]
     dsimp only
     rw [if_neg hn]
     have := recs_cut hD f (behind p R0 s0) k y e (by simpa using h) hf' (fun i x hi hx => hs (i + 1) x (by omega) (by simpa using hx))
     rw [this]
     rfl
theorem recs_next {D : Dk} {a z : Int} : ∀ (f : Nat) (p : Ps) (i : Nat) (x : Ps × Rc), (recs D a z f p).1[i]? = some x → hasNext x.2 = true → (recs D a z f p).1.length = i + 1
 | 0, p, i, x, h, _ => by simp [recs] at h
 | f + 1, p, i, x, h, hx => by
  unfold recs at h ⊢
  rcases hf : follow D a z p with ⟨o, e⟩
  rw [hf] at h
  cases o with
  | none => simp at h
  | some w =>
   obtain ⟨R0, s0⟩ := w
   dsimp only at h ⊢
   by_cases hn : hasNext R0 = true
   ·rw [if_pos hn] at h ⊢
    cases i with
    | zero => rfl
    | succ i => simp at h
   ·rw [if_neg hn] at h ⊢
    cases i with
    | zero =>
     simp at h
     rw [← h] at hx
     exact absurd hx hn
    | succ i =>
     have := recs_next f _ i x (by simpa using h) hx
     simp only [List.length_cons]
     omega
theorem recs_all {D D' : Dk} (hD : D.ok) {a z : Int} : ∀ (f : Nat) (p : Ps), (∀ x ∈ (recs D a z f p).1, lenOf x.2 = 1 ∧ D'.read (a + x.1.o) = D.read (a + x.1.o)) → (∃ x ∈ (recs D a z f p).1, hasNext x.2 = true) → recs D' a z f p = recs D a z f p
 | 0, p, _, h => by simp [recs] at h
 | f + 1, p, hs, h => by
  unfold recs at h hs ⊢
  rcases hf : follow D a z p with ⟨o, er⟩
  rw [hf] at h hs
  cases o with
  | none => simp at h
  | some w =>
   obtain ⟨R0, s0⟩ := w
   dsimp only at h hs ⊢
   by_cases hn : hasNext R0 = true
   ·rw [if_pos hn] at h hs ⊢
    obtain ⟨h1, h2⟩ := hs (p, R0) (by simp)
    rw [follow_one hD hf h1 h2]
    dsimp only
    rw [if_pos hn]
   ·rw [if_neg hn] at h hs ⊢
    obtain ⟨h1, h2⟩ := hs (p, R0) (by simp)
    rw [follow_one hD hf h1 h2]
    dsimp only
    rw [if_neg hn]
    rw [recs_all hD f (behind p R0 s0) (fun x hx => hs x (by simp [hx])) (by
     obtain ⟨x, hx, hx2⟩ := h
     rcases List.mem_cons.1 hx with rfl | hx
     ·exact absurd hx2 hn
     ·exact ⟨x, hx, hx2⟩)]
theorem start_alike {D D' : Dk} {a z : Int} {p : Ps} {hb : Bool} (h : p.o = 0 → 0 < z → D'.read a = D.read a) : start D' a z p hb = start D a z p hb := by
 by_cases h0 : p.o ≠ 0
 ·unfold start; rw [if_pos h0, if_pos h0]
 ·by_cases h1 : z ≤ 0
  ·unfold start; rw [if_neg h0, if_neg h0, if_pos h1, if_pos h1]
  ·unfold start
   rw [h (by omega) (by omega)]
theorem seg_cut {D D' : Dk} (hD : D.ok) {s l r q : Int} {p : Ps} {L : List (Ps × Rc)} {E : Ps} {err : Int} (h : segOf D s l r q p = (L, E, err)) {k : Nat} {y : Ps × Rc} {e : Int} (hk : L[k]? = some y) (hf : follow D' (ofSeg none s l r q p.s).2.1 (ofSeg none s l r q p.s).2.2 y.1 = (none, e))
  (hs : ∀ (i : Nat) (x : Ps × Rc), i < k → L[i]? = some x → lenOf x.2 = 1 ∧ D'.read ((ofSeg none s l r q p.s).2.1 + x.1.o) = D.read ((ofSeg none s l r q p.s).2.1 + x.1.o)) (hh : p.o = 0 → 0 < (ofSeg none s l r q p.s).2.2 → D'.read (ofSeg none s l r q p.s).2.1 = D.read (ofSeg none s l r q p.s).2.1) :
  segOf D' s l r q p = (L.take k, y.1, e) ∧ ∃ at_, Stand D' (ofSeg none s l r q p.s).2.1 (ofSeg none s l r q p.s).2.2 s p (L.take k) at_ false := by
 unfold segOf at h ⊢
 have hscan : scanOf D' (ofSeg none s l r q p.s).2.1 (ofSeg none s l r q p.s).2.2 p false = (L.take k, y.1, e) ∧ ∀ (i : Nat) (x : Ps × Rc), L[i]? = some x → hasNext x.2 = true → L.length = i + 1 := by
  unfold scanOf at h ⊢
  rw [start_alike hh]
  rcases hst : start D (ofSeg none s l r q p.s).2.1 (ofSeg none s l r q p.s).2.2 p false with ⟨o, e0⟩
  rw [hst] at h
  cases o with
  | none =>
   dsimp only at h
   injection h with h1 _
   rw [← h1] at hk
   simp at hk
  | some x =>
   dsimp only at h ⊢
   have hl : L = (recs D (ofSeg none s l r q p.s).2.1 (ofSeg none s l r q p.s).2.2 (ofSeg none s l r q p.s).2.2.toNat x).1 := by rw [h]
   rw [hl] at hk hs ⊢
   exact ⟨recs_cut hD _ x k y e hk hf hs, fun i w hw hn => recs_next _ _ i w hw hn⟩
 refine ⟨hscan.1, ?_⟩
 rcases List.eq_nil_or_concat (L.take k) with h0 | ⟨pre, ⟨pk, R⟩, h0⟩
 ·rw [h0]
  exact ⟨p, .nil⟩
 ·rw [List.concat_eq_append] at h0
  obtain ⟨sm, h1, _, _⟩ := scan_end hscan.1 h0
  have hkl : k < L.length := by
   obtain ⟨h2, _⟩ := List.getElem?_eq_some_iff.1 hk
   exact h2
  have hlen : pre.length + 1 = k := by
   have := congrArg List.length h0
   rw [List.length_take, List.length_append, List.length_singleton] at this
   omega
  have hR : L[pre.length]? = some (pk, R) := by
   have h3 : (L.take k)[pre.length]? = some (pk, R) := by rw [h0]; simp
   rw [List.getElem?_take_of_lt (by omega)] at h3
   exact h3
  have hn : hasNext R = false := by
   cases hx : hasNext R with
   | false => rfl
   | true =>
    have := hscan.2 _ _ hR hx
    omega
  have hst := Stand.snoc (D := D') (a := (ofSeg none s l r q p.s).2.1) (z := (ofSeg none s l r q p.s).2.2) (s := s) (p := p) pre pk R sm h1
  rw [stepOn_none hn] at hst
  rw [h0]
  exact ⟨_, hst⟩
theorem start_s {D : Dk} {a z : Int} {p x : Ps} {hb : Bool} {e : Int} (h : start D a z p hb = (some x, e)) : x.s = p.s := by
 unfold start at h
 split at h
 ·injection h with h1 _; injection h1 with h1; rw [← h1]
 ·split at h
  ·cases h
  ·split at h
   ·injection h with h1 _; injection h1 with h1; rw [← h1]
   ·cases h
theorem seg_s {D : Dk} {s l r q : Int} {p : Ps} {L : List (Ps × Rc)} {E : Ps} {err : Int} (h : segOf D s l r q p = (L, E, err)) : ∀ x ∈ L, x.1.s = p.s := by
 unfold segOf scanOf at h
 rcases hst : start D (ofSeg none s l r q p.s).2.1 (ofSeg none s l r q p.s).2.2 p false with ⟨o, e0⟩
 rw [hst] at h
 cases o with
 | none =>
  dsimp only at h
  injection h with h1 _
  rw [← h1]
  simp
 | some x =>
  dsimp only at h
  have hl : L = (recs D (ofSeg none s l r q p.s).2.1 (ofSeg none s l r q p.s).2.2 (ofSeg none s l r q p.s).2.2.toNat x).1 := by rw [h]
  intro y hy
  rw [hl] at hy
  rw [recs_s _ _ y hy, start_s hst]
theorem seg_all {D D' : Dk} (hD : D.ok) {s l r q : Int} {p : Ps} {L : List (Ps × Rc)} {E : Ps} {err : Int} (h : segOf D s l r q p = (L, E, err)) (hs : ∀ x ∈ L, lenOf x.2 = 1 ∧ D'.read ((ofSeg none s l r q p.s).2.1 + x.1.o) = D.read ((ofSeg none s l r q p.s).2.1 + x.1.o)) (hn : ∃ x ∈ L, hasNext x.2 = true)
  (hh : p.o = 0 → 0 < (ofSeg none s l r q p.s).2.2 → D'.read (ofSeg none s l r q p.s).2.1 = D.read (ofSeg none s l r q p.s).2.1) : segOf D' s l r q p = (L, E, err) := by
 unfold segOf scanOf at h ⊢
 rw [start_alike hh]
 rcases hst : start D (ofSeg none s l r q p.s).2.1 (ofSeg none s l r q p.s).2.2 p false with ⟨o, e0⟩
 rw [hst] at h
 cases o with
 | none => exact h
 | some x =>
  dsimp only at h ⊢
  have hl : L = (recs D (ofSeg none s l r q p.s).2.1 (ofSeg none s l r q p.s).2.2 (ofSeg none s l r q p.s).2.2.toNat x).1 := by rw [h]
  rw [hl] at hs hn
  rw [recs_all hD _ x hs hn]
  exact h
theorem Stand.onto {D D' : Dk} (hD : D.ok) {a z s : Int} {p at_ : Ps} {L : List (Ps × Rc)} {on : Bool} (hs : Stand D a z s p L at_ on) : on = true → (∀ x ∈ L, lenOf x.2 = 1 ∧ D'.read (a + x.1.o) = D.read (a + x.1.o)) → (∃ x ∈ L, hasNext x.2 = true) ∧ Stand D' a z s p L at_ on := by
 intro hon hall
 cases hs with
 | nil => cases hon
 | snoc pre pk R sm hf2 =>
  have h5 := stepOn_on (s := s) (p := behind pk R sm) (R := R) hon
  obtain ⟨h6, h7⟩ := hall (pk, R) (by simp)
  exact ⟨⟨(pk, R), by simp, h5.2.2.2.2.2⟩, .snoc pre pk R sm (follow_one hD hf2 h6 h7)⟩
theorem Logs.cut {D D' : Dk} (hD : D.ok) {s l r q t : Int} (hsame : ∀ x, x ≠ t → D'.read x = D.read x) (hheads : ∀ i, 0 < (ofSeg none s l r q i).2.2 → (ofSeg none s l r q i).2.1 ≠ t) {p : Ps} {L : List (Ps × Rc)} {E : Ps} {err : Int} (h : Logs D s l r q p L E err) :
  (∀ x ∈ L, lenOf x.2 = 1) → ∀ (k : Nat) (y : Ps × Rc) (e : Int), L[k]? = some y → follow D' (ofSeg none s l r q y.1.s).2.1 (ofSeg none s l r q y.1.s).2.2 y.1 = (none, e) → (∀ (i : Nat) (x : Ps × Rc), i < k → L[i]? = some x → (ofSeg none s l r q x.1.s).2.1 + x.1.o ≠ t) → Logs D' s l r q p (L.take k) y.1 e := by
 induction h with
 | last p L E err at_ h hs =>
  intro hone k y e hk hf hel
  have hys := seg_s h y (List.mem_of_getElem? hk)
  rw [hys] at hf
  obtain ⟨h1, at2, h2⟩ := seg_cut hD h hk hf (fun i x hi hx => ⟨hone x (List.mem_of_getElem? hx), hsame _ (by have := hel i x hi hx; rwa [seg_s h x (List.mem_of_getElem? hx)] at this)⟩) (fun _ hz => hsame _ (hheads _ hz))
  exact .last p _ _ _ at2 h1 h2
 | more p L E err at_ L2 E2 err2 h hs h2 ih =>
  intro hone k y e hk hf hel
  by_cases hkl : k < L.length
  ·rw [List.getElem?_append_left hkl] at hk
   have hys := seg_s h y (List.mem_of_getElem? hk)
   rw [hys] at hf
   obtain ⟨h1, at2, h3⟩ := seg_cut hD h hk hf (fun i x hi hx => ⟨hone x (List.mem_append_left _ (List.mem_of_getElem? hx)), hsame _ (by have := hel i x hi (by rw [List.getElem?_append_left (by omega)]; exact hx); rwa [seg_s h x (List.mem_of_getElem? hx)] at this)⟩) (fun _ hz => hsame _ (hheads _ hz))
   rw [List.take_append_of_le_length (by omega)]
   exact .last p _ _ _ at2 h1 h3
  ·rw [List.getElem?_append_right (by omega)] at hk
   have hall : ∀ x ∈ L, lenOf x.2 = 1 ∧ D'.read ((ofSeg none s l r q p.s).2.1 + x.1.o) = D.read ((ofSeg none s l r q p.s).2.1 + x.1.o) := fun x hx => by
    obtain ⟨i, hi⟩ := List.getElem?_of_mem hx
    obtain ⟨hi2, _⟩ := List.getElem?_eq_some_iff.1 hi
    refine ⟨hone x (List.mem_append_left _ hx), hsame _ ?_⟩
    have := hel i x (by omega) (by rw [List.getElem?_append_left hi2]; exact hi)
    rwa [seg_s h x hx] at this
   have hst : (∃ x ∈ L, hasNext x.2 = true) ∧ Stand D' (ofSeg none s l r q p.s).2.1 (ofSeg none s l r q p.s).2.2 s p L at_ true := hs.onto hD rfl hall
   have h1 := seg_all hD h hall hst.1 (fun _ hz => hsame _ (hheads _ hz))
   have h3 := ih (fun x hx => hone x (List.mem_append_right _ hx)) (k - L.length) y e hk hf (fun i x hi hx => hel (i + L.length) x (by omega) (by rw [List.getElem?_append_right (by omega), show i + L.length - L.length = i by omega]; exact hx))
   rw [List.take_append, List.take_of_length_le (by omega)]
   exact .more p L E err at_ _ _ _ h1 hst.2 h3
theorem follow_dec {D : Dk} (hD : D.ok) {a z : Int} {p : Ps} {R : Rc} {sm e : Int} (h : follow D a z p = (some (R, sm), e)) (h1 : lenOf R = 1) : (record.decode (D.read (a + p.o)).2).1 = R := by
 have hn := follow_size hD h
 rw [h1] at hn
 have hin := follow_in h
 unfold follow at h
 rw [if_neg (by omega), hn, gat_one] at h
 dsimp only at h
 split at h
 ·cases h
 split at h
 ·cases h
 split at h
 ·injection h with h2 _
  injection h2 with h2
  injection h2 with h2 _
 ·cases h
theorem recs_follow {D : Dk} (hD : D.ok) {a z : Int} : ∀ (f : Nat) (p : Ps), ∀ y ∈ (recs D a z f p).1, ∃ sm, follow D a z y.1 = (some (y.2, sm), 0)
 | 0, p => by simp [recs]
 | f + 1, p => by
  unfold recs
  rcases hf : follow D a z p with ⟨o, e⟩
  cases o with
  | none => simp
  | some y =>
   obtain ⟨R0, s0⟩ := y
   have he := (follow_ok hD hf).2.2.1
   dsimp only
   by_cases hn : hasNext R0 = true
   ·rw [if_pos hn]
    intro y hy
    rw [List.mem_singleton.1 hy]
    exact ⟨s0, by rw [hf, he]⟩
   ·rw [if_neg hn]
    intro y hy
    rcases List.mem_cons.1 hy with rfl | hy
    ·exact ⟨s0, by rw [hf, he]⟩
    ·exact recs_follow hD f _ y hy
theorem Logs.follows {D : Dk} (hD : D.ok) {s l r q : Int} {p : Ps} {L : List (Ps × Rc)} {E : Ps} {err : Int} (h : Logs D s l r q p L E err) : ∀ y ∈ L, ∃ sm, follow D (ofSeg none s l r q y.1.s).2.1 (ofSeg none s l r q y.1.s).2.2 y.1 = (some (y.2, sm), 0) := by
 have one : ∀ {p : Ps} {L : List (Ps × Rc)} {E : Ps} {err : Int}, segOf D s l r q p = (L, E, err) → ∀ y ∈ L, ∃ sm, follow D (ofSeg none s l r q y.1.s).2.1 (ofSeg none s l r q y.1.s).2.2 y.1 = (some (y.2, sm), 0) := fun {p L E err} h y hy => by
  rw [seg_s h y hy]
  unfold segOf scanOf at h
  rcases hst : start D (ofSeg none s l r q p.s).2.1 (ofSeg none s l r q p.s).2.2 p false with ⟨o, e0⟩
  rw [hst] at h
  cases o with
  | none =>
   dsimp only at h
   injection h with h1 _
   rw [← h1] at hy
   simp at hy
  | some x =>
   dsimp only at h
   have hl : L = (recs D (ofSeg none s l r q p.s).2.1 (ofSeg none s l r q p.s).2.2 (ofSeg none s l r q p.s).2.2.toNat x).1 := by rw [h]
   rw [hl] at hy
   exact recs_follow hD _ x y hy
 induction h with
 | last p L E err at_ h hs => exact one h
 | more p L E err at_ L2 E2 err2 h hs h2 ih =>
  intro y hy
  rcases List.mem_append.1 hy with hy | hy
  ·exact one h y hy
  ·exact ih y hy
theorem Logs.apart {D : Dk} (hD : D.ok) {s l r q : Int} {p : Ps} {L : List (Ps × Rc)} {E : Ps} {err : Int} (h : Logs D s l r q p L E err) (hone : ∀ x ∈ L, lenOf x.2 = 1) {i k : Nat} {x y : Ps × Rc} (hik : i < k) (hx : L[i]? = some x) (hy : L[k]? = some y) : (ofSeg none s l r q x.1.s).2.1 + x.1.o ≠ (ofSeg none s l r q y.1.s).2.1 + y.1.o := by
 intro he
 obtain ⟨sx, fx⟩ := h.follows hD x (List.mem_of_getElem? hx)
 obtain ⟨sy, fy⟩ := h.follows hD y (List.mem_of_getElem? hy)
 have dx := follow_dec hD fx (hone x (List.mem_of_getElem? hx))
 have dy := follow_dec hD fy (hone y (List.mem_of_getElem? hy))
 rw [he, dy] at dx
 have nx := ((h.nums hD).2 i x hx).1
 have ny := ((h.nums hD).2 k y hy).1
 rw [dx] at ny
 omega
theorem recs_cutE {D D' : Dk} (hD : D.ok) {a z : Int} : ∀ (f : Nat) (p : Ps) (e : Int), (∀ x ∈ (recs D a z f p).1, (lenOf x.2 = 1 ∧ D'.read (a + x.1.o) = D.read (a + x.1.o)) ∧ hasNext x.2 = false) → follow D' a z (recs D a z f p).2.1 = (none, e) → z ≤ p.o + f → recs D' a z f p = ((recs D a z f p).1, (recs D a z f p).2.1, e)
 | 0, p, e, _, hf, hz => by
  unfold recs at hf ⊢
  dsimp only at hf
  rw [follow_end _ _ _ _ (by omega)] at hf
  injection hf with _ h1
  rw [h1]
 | f + 1, p, e, hs, hf', hz => by
  unfold recs at hs hf' ⊢
  rcases hf : follow D a z p with ⟨o, er⟩
  rw [hf] at hs hf'
  cases o with
  | none =>
   dsimp only at hf' ⊢
   rw [hf']
  | some w =>
   obtain ⟨R0, s0⟩ := w
   dsimp only at hs hf' ⊢
   by_cases hn : hasNext R0 = true
   ·rw [if_pos hn] at hs
    have := (hs (p, R0) (by simp)).2
    rw [hn] at this
    cases this
   ·rw [if_neg hn] at hs hf' ⊢
    obtain ⟨⟨h1, h2⟩, _⟩ := hs (p, R0) (by simp)
    rw [follow_one hD hf h1 h2]
    dsimp only
    rw [if_neg hn]
    have := recs_cutE hD f (behind p R0 s0) e (fun x hx => hs x (by simp [hx])) hf' (by rw [behind_o, h1]; omega)
    rw [this]
theorem seg_cutE {D D' : Dk} (hD : D.ok) {s l r q : Int} {p : Ps} {L : List (Ps × Rc)} {E : Ps} {err : Int} (h : segOf D s l r q p = (L, E, err)) {e : Int} (hn : ∀ x ∈ L, (lenOf x.2 = 1 ∧ D'.read ((ofSeg none s l r q p.s).2.1 + x.1.o) = D.read ((ofSeg none s l r q p.s).2.1 + x.1.o)) ∧ hasNext x.2 = false)
  (hf : follow D' (ofSeg none s l r q p.s).2.1 (ofSeg none s l r q p.s).2.2 E = (none, e)) (hh : p.o = 0 → 0 < (ofSeg none s l r q p.s).2.2 → D'.read (ofSeg none s l r q p.s).2.1 = D.read (ofSeg none s l r q p.s).2.1) (hE : 1 ≤ E.o) (hp : 0 ≤ p.o) (hst0 : p.o = 0 → (start D (ofSeg none s l r q p.s).2.1 (ofSeg none s l r q p.s).2.2 p false).1 ≠ none) : segOf D' s l r q p = (L, E, e) := by
 unfold segOf scanOf at h ⊢
 rw [start_alike hh]
 rcases hst : start D (ofSeg none s l r q p.s).2.1 (ofSeg none s l r q p.s).2.2 p false with ⟨o, e0⟩
 rw [hst] at h hst0
 cases o with
 | none =>
  exfalso
  unfold start at hst
  by_cases h0 : p.o ≠ 0
  ·rw [if_pos h0] at hst; cases hst
  ·exact hst0 (by omega) rfl
 | some x =>
  have hxo : 0 ≤ x.o := by
   unfold start at hst
   split at hst
   ·injection hst with h1 _; injection h1 with h1; rw [← h1]; exact hp
   ·split at hst
    ·cases hst
    ·split at hst
     ·injection hst with h1 _; injection h1 with h1; rw [← h1]; exact (by decide : (0 : Int) ≤ 1)
     ·cases hst
  dsimp only at h ⊢
  have hl : L = (recs D (ofSeg none s l r q p.s).2.1 (ofSeg none s l r q p.s).2.2 (ofSeg none s l r q p.s).2.2.toNat x).1 := by rw [h]
  have hE2 : E = (recs D (ofSeg none s l r q p.s).2.1 (ofSeg none s l r q p.s).2.2 (ofSeg none s l r q p.s).2.2.toNat x).2.1 := by rw [h]
  rw [hl] at hn
  rw [hE2] at hf
  rw [hl, hE2]
  exact recs_cutE hD _ x e hn hf (by omega)
theorem seg_next {D : Dk} {s l r q : Int} {p : Ps} {L : List (Ps × Rc)} {E : Ps} {err : Int} (h : segOf D s l r q p = (L, E, err)) : ∀ (i : Nat) (x : Ps × Rc), L[i]? = some x → hasNext x.2 = true → L.length = i + 1 := by
 unfold segOf scanOf at h
 rcases hst : start D (ofSeg none s l r q p.s).2.1 (ofSeg none s l r q p.s).2.2 p false with ⟨o, e0⟩
 rw [hst] at h
 cases o with
 | none =>
  dsimp only at h
  injection h with h1 _
  rw [← h1]
  simp
 | some x =>
  dsimp only at h
  have hl : L = (recs D (ofSeg none s l r q p.s).2.1 (ofSeg none s l r q p.s).2.2 (ofSeg none s l r q p.s).2.2.toNat x).1 := by rw [h]
  intro i y hy hn
  rw [hl] at hy ⊢
  exact recs_next _ _ i y hy hn
theorem Logs.cutE {D D' : Dk} (hD : D.ok) {s l r q t : Int} (hsame : ∀ x, x ≠ t → D'.read x = D.read x) (hheads : ∀ i, 0 < (ofSeg none s l r q i).2.2 → (ofSeg none s l r q i).2.1 ≠ t) {p : Ps} {L : List (Ps × Rc)} {E : Ps} {err : Int} (h : Logs D s l r q p L E err) :
  0 ≤ p.o → 1 ≤ E.o → (∀ x ∈ L, lenOf x.2 = 1) → (∀ x, L.getLast? = some x → hasNext x.2 = false) → L ≠ [] → ∀ e : Int, follow D' (ofSeg none s l r q E.s).2.1 (ofSeg none s l r q E.s).2.2 E = (none, e) → (∀ x ∈ L, (ofSeg none s l r q x.1.s).2.1 + x.1.o ≠ t) → Logs D' s l r q p L E e := by
 induction h with
 | last p L E err at_ h hs =>
  intro hp hE hone hop hne e hf hel
  have hs2 := seg_s h
  obtain ⟨pre, ⟨pk, R⟩, h0⟩ := (List.eq_nil_or_concat L).resolve_left hne
  rw [List.concat_eq_append] at h0
  have hEs : E.s = p.s := by
   have h1 := h
   unfold segOf at h1
   obtain ⟨sm, _, h2, _⟩ := scan_end h1 h0
   rw [h2]
   exact hs2 (pk, R) (by rw [h0]; simp)
  rw [hEs] at hf
  have hplain : ∀ x ∈ L, hasNext x.2 = false := fun x hx => by
   cases hx2 : hasNext x.2 with
   | false => rfl
   | true =>
    obtain ⟨i, hi⟩ := List.getElem?_of_mem hx
    have h3 := seg_next h i x hi hx2
    have h4 := hop x (by rw [List.getLast?_eq_getElem?, h3]; simpa using hi)
    rw [h4] at hx2
    cases hx2
  have hall : ∀ x ∈ L, lenOf x.2 = 1 ∧ D'.read ((ofSeg none s l r q p.s).2.1 + x.1.o) = D.read ((ofSeg none s l r q p.s).2.1 + x.1.o) := fun x hx => ⟨hone x hx, hsame _ (by have := hel x hx; rwa [hs2 x hx] at this)⟩
  have h1 := seg_cutE hD h (fun x hx => ⟨hall x hx, hplain x hx⟩) hf (fun _ hz => hsame _ (hheads _ hz)) hE hp (fun _ hst => by
   have h2 := h
   unfold segOf scanOf at h2
   rcases hst2 : start D (ofSeg none s l r q p.s).2.1 (ofSeg none s l r q p.s).2.2 p false with ⟨o, e0⟩
   rw [hst2] at hst h2
   dsimp only at hst
   subst hst
   dsimp only at h2
   injection h2 with h3 _
   exact hne h3.symm)
  have h2 : ∃ a2, Stand D' (ofSeg none s l r q p.s).2.1 (ofSeg none s l r q p.s).2.2 s p L a2 false := by
   have h5 := h
   unfold segOf at h5
   obtain ⟨sm, h6, _, _⟩ := scan_end h5 h0
   obtain ⟨h7, h8⟩ := hall (pk, R) (by rw [h0]; simp)
   have hst := Stand.snoc (D := D') (a := (ofSeg none s l r q p.s).2.1) (z := (ofSeg none s l r q p.s).2.2) (s := s) (p := p) pre pk R sm (follow_one hD h6 h7 h8)
   rw [stepOn_none (hplain (pk, R) (by rw [h0]; simp))] at hst
   rw [h0]
   exact ⟨_, hst⟩
  obtain ⟨a2, h2⟩ := h2
  exact .last p L E e a2 h1 h2
 | more p L E err at_ L2 E2 err2 h hs h2 ih =>
  intro hp hE hone hop hne e hf hel
  have hall : ∀ x ∈ L, lenOf x.2 = 1 ∧ D'.read ((ofSeg none s l r q p.s).2.1 + x.1.o) = D.read ((ofSeg none s l r q p.s).2.1 + x.1.o) := fun x hx => ⟨hone x (List.mem_append_left _ hx), hsame _ (by have := hel x (List.mem_append_left _ hx); rwa [seg_s h x hx] at this)⟩
  have hst := hs.onto hD rfl hall
  have h1 := seg_all hD h hall hst.1 (fun _ hz => hsame _ (hheads _ hz))
  have ho : at_.o = 0 := (hs.done h rfl).2.2.1
  by_cases h20 : L2 = []
  ·exfalso
   subst h20
   obtain ⟨x, hx, hn⟩ := hst.1
   obtain ⟨i, hi⟩ := List.getElem?_of_mem hx
   have h3 := seg_next h i x hi hn
   have h4 := hop x (by rw [List.append_nil, List.getLast?_eq_getElem?, h3]; simpa using hi)
   rw [h4] at hn
   cases hn
  ·exact .more p L E err at_ L2 E2 e h1 hst.2 (ih (by omega) hE (fun x hx => hone x (List.mem_append_right _ hx)) (fun x hx => hop x (by rw [List.getLast?_append, hx]; rfl)) h20 e hf (fun x hx => hel x (List.mem_append_right _ hx)))
end Go.Proofs.YtgifeilmidpkeaaGreat.sc

namespace Go.Proofs.YtgifeilmidpkeaaGreat.sc
set_option linter.unusedVariables false
set_option linter.unusedSimpArgs false
open Go.RowKit mem base disk geom
open record (Rc)
def flt (D : Dk) (t : Nat) : Dk := { D with faults := D.faults.set t true }
theorem flt_n (D : Dk) (t : Nat) : (flt D t).n = D.n := by unfold flt Dk.n; simp
theorem flt_yes {D : Dk} {t : Nat} (ht : t < D.n) : D.faulted (t : Int) true = (0, flt D t) := by
 unfold Dk.faulted
 rw [if_pos (by unfold Dk.has; exact decide_eq_true ⟨by omega, by omega⟩), Int.toNat_natCast]
 rfl
theorem flt_no {D : Dk} (h : Reads D) {t : Nat} (ht : t < D.n) : (flt D t).faulted (t : Int) false = (0, D) := by
 unfold Dk.faulted
 rw [if_pos (by unfold Dk.has; exact decide_eq_true ⟨by omega, by rw [flt_n]; omega⟩), Int.toNat_natCast]
 have h1 : (D.faults.set t true).set t false = D.faults := by
  rw [List.set_set]
  refine List.ext_getElem? fun i => ?_
  rw [List.getElem?_set]
  by_cases hi : t = i
  ·subst hi
   have h2 := h.whole t ht
   have h3 : t < D.faults.length := ht
   rw [if_pos rfl, if_pos h3]
   rw [List.getD_eq_getElem?_getD] at h2
   rw [List.getElem?_eq_getElem h3] at h2 ⊢
   simp at h2
   rw [h2]
  ·rw [if_neg hi]
 show ((0 : Int), { (flt D t) with faults := (flt D t).faults.set t false }) = (0, D)
 unfold flt
 dsimp only
 rw [h1]
theorem flt_at {D : Dk} (h : Reads D) {t : Nat} (ht : t < D.n) : (flt D t).read (t : Int) = (4, []) := by
 unfold Dk.read
 have h0 : (flt D t).has (t : Int) = true := by unfold Dk.has; exact decide_eq_true ⟨by omega, by rw [flt_n]; omega⟩
 have h1 : (flt D t).off = false := h.live.off
 have h2 : (flt D t).faults.getD t false = true := by
  unfold flt
  have h3 : t < D.faults.length := ht
  simp [List.getD_eq_getElem?_getD, List.getElem?_set, h3]
 rw [h0, h1, Int.toNat_natCast, h2]
 simp
theorem flt_else {D : Dk} {t : Nat} (x : Int) (hx : x ≠ (t : Int)) : (flt D t).read x = D.read x := by
 unfold Dk.read
 have h0 : (flt D t).has x = D.has x := by unfold Dk.has; rw [flt_n]
 rw [h0]
 by_cases h1 : D.has x = true
 ·have h2 : 0 ≤ x := by unfold Dk.has at h1; have := of_decide_eq_true h1; omega
  have h3 : (flt D t).faults.getD x.toNat false = D.faults.getD x.toNat false := by
   unfold flt
   dsimp only
   rw [List.getD_eq_getElem?_getD, List.getElem?_set_ne (by omega), List.getD_eq_getElem?_getD]
  rw [h3]
  rfl
 ·simp [h1]
theorem flt_ok {D : Dk} (h : D.ok) (t : Nat) : (flt D t).ok := ⟨by rw [flt_n]; exact h.n1, by rw [flt_n]; exact h.n2, by rw [flt_n]; exact h.safe, fun x hx => by rw [flt_n]; exact h.held x hx, h.few, h.fuse⟩
theorem flt_follow {D : Dk} (h : Reads D) {t : Nat} (ht : t < D.n) {a z : Int} {p : Ps} (ho : 1 ≤ p.o ∧ p.o < z) (ha : a + p.o = (t : Int)) : follow (flt D t) a z p = (none, 4) := by
 unfold follow
 rw [ha, flt_at h ht, if_neg (by omega)]
 simp
theorem of_pos {s l r q i : Int} {o : Int} (h : 1 ≤ o ∧ o < (ofSeg none s l r q i).2.2) : 0 ≤ i ∧ i ≤ s - 1 := by
 by_cases hi : 0 ≤ i ∧ i ≤ s - 1
 ·exact hi
 ·unfold ofSeg at h
  rw [if_neg hi] at h
  dsimp only at h
  omega
theorem Rung.at_ {D : Dk} {r q : Int} {p0 E : Ps} {L : List (Ps × Rc)} {n : Nat} (hr : 0 ≤ r ∧ 0 ≤ q) (hn : 2 + 2 * r + 4 * q + 8 * 24 ≤ (n : Int)) (h : Rung D r q p0 L E n) {y : Ps × Rc} (hy : y ∈ L) :
  ∃ t : Nat, t < D.n ∧ 2 + 2 * r + 4 * q + y.1.s * 24 + y.1.o = (t : Int) ∧ (0 ≤ y.1.s ∧ y.1.s ≤ 7) ∧ (1 ≤ y.1.o ∧ y.1.o ≤ 23) ∧ ∃ sm, follow D (2 + 2 * r + 4 * q + y.1.s * 24) 24 y.1 = (some (y.2, sm), 0) := by
 obtain ⟨sm, hf⟩ := h.logs.follows h.reads.ok y hy
 have h1 := follow_in hf
 have h2 := of_pos h1
 rw [of24 hr (by omega)] at h1 hf
 have h3 := fst24 (i := y.1.s) hr h2.1
 dsimp only at h1 hf
 have h4 := h.size
 refine ⟨(2 + 2 * r + 4 * q + y.1.s * 24 + y.1.o).toNat, by omega, by omega, by omega, by omega, sm, ?_⟩
 rw [← h3]
 exact hf
theorem heads_off {r q : Int} (hr : 0 ≤ r ∧ 0 ≤ q) {x o : Int} {t : Nat} (hx : 0 ≤ x ∧ x ≤ 7) (ho : 1 ≤ o ∧ o ≤ 23) (ht : 2 + 2 * r + 4 * q + x * 24 + o = (t : Int)) : ∀ i, 0 < (ofSeg none 8 24 r q i).2.2 → (ofSeg none 8 24 r q i).2.1 ≠ (t : Int) := by
 intro i hi
 by_cases h : 0 ≤ i ∧ i ≤ 8 - 1
 ·rw [of24 hr (by omega)]
  have h3 := fst24 (i := i) hr h.1
  dsimp only
  omega
 ·unfold ofSeg at hi
  rw [if_neg h] at hi
  dsimp only at hi
  omega
theorem Rung.fault {D : Dk} {r q : Int} {p0 E : Ps} {L : List (Ps × Rc)} {n : Nat} (hr : 0 ≤ r ∧ 0 ≤ q) (hn : 2 + 2 * r + 4 * q + 8 * 24 ≤ (n : Int)) (h : Rung D r q p0 L E n) (h0 : 0 ≤ p0.o) (hne : L ≠ []) (k : Nat) (hk : k ≤ L.length) :
  ∃ (t : Nat) (T E' : Ps), t < D.n ∧ ((k < L.length ∧ ∃ y, L[k]? = some y ∧ y.1 = T) ∨ (k = L.length ∧ T = E)) ∧ 2 + 2 * r + 4 * q + T.s * 24 + T.o = (t : Int) ∧ (0 ≤ T.s ∧ T.s ≤ 7) ∧ (1 ≤ T.o ∧ T.o ≤ 23) ∧ Logs (flt D t) 8 24 r q p0 (L.take k) E' 4 := by
 by_cases hlt : k < L.length
 ·obtain ⟨y, hy⟩ : ∃ y, L[k]? = some y := ⟨_, List.getElem?_eq_getElem hlt⟩
  obtain ⟨t, t1, t2, t3, t4, sm, t5⟩ := h.at_ hr hn (List.mem_of_getElem? hy)
  have h3 := fst24 (i := y.1.s) hr t3.1
  refine ⟨t, y.1, y.1, t1, .inl ⟨hlt, y, hy, rfl⟩, t2, t3, t4, ?_⟩
  refine Logs.cut h.reads.ok (t := t) (fun x hx => flt_else x hx) (heads_off hr t3 t4 t2) h.logs h.one k y 4 hy ?_ ?_
  ·rw [of24 hr t3]
   exact flt_follow h.reads t1 ⟨by omega, by dsimp only; omega⟩ (by dsimp only; omega)
  ·intro i x hi hx
   have := Logs.apart h.reads.ok h.logs h.one hi hx hy
   rw [of24 hr t3] at this
   dsimp only at this
   rw [h3, t2] at this
   exact this
 ·obtain ⟨t, ht⟩ : ∃ t : Nat, 2 + 2 * r + 4 * q + E.s * 24 + E.o = (t : Int) := ⟨(2 + 2 * r + 4 * q + E.s * 24 + E.o).toNat, by have := h.off; have := h.seg; omega⟩
  have hs := h.seg
  have ho := h.off
  have hz := h.size
  have htn : t < D.n := by omega
  have h3 := fst24 (i := E.s) hr hs.1
  refine ⟨t, E, E, htn, .inr ⟨by omega, rfl⟩, ht, hs, ho, ?_⟩
  rw [List.take_of_length_le (by omega)]
  refine Logs.cutE h.reads.ok (t := t) (fun x hx => flt_else x hx) (heads_off hr hs ho ht) h.logs h0 ho.1 h.one h.opn hne 4 ?_ ?_
  ·rw [of24 hr hs]
   exact flt_follow h.reads htn ⟨by omega, by dsimp only; omega⟩ (by dsimp only; omega)
  ·intro x hx he
   obtain ⟨sm, hf⟩ := h.logs.follows h.reads.ok x hx
   have h4 := follow_size h.reads.ok hf
   rw [he, h.reads.read t htn, h.one x hx] at h4
   have h5 := h.blank
   rw [show fst 24 r q E.s + E.o.toNat = t by omega] at h5
   rw [h5, size_zeros] at h4
   cases h4
end Go.Proofs.YtgifeilmidpkeaaGreat.sc
