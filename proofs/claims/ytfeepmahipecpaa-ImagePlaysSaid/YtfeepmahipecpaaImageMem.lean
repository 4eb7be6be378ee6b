/- An image in memory, and what its calls make of it. -/
import Derived.Test.YtfeepmahipecpaaPagedAllOf
import Derived.Test.YtfeepmahipecpaaPagedAtInt
import Derived.Test.YtfeepmahipecpaaPagedClone
import Derived.Test.YtfeepmahipecpaaRangeNest
namespace Go.Proofs.Ytfeepmahipecpaa.im
open Go.RowKit Go.Proofs.Ytfeepmahipecpaa.mem Go.Proofs.Ytfeepmahipecpaa.base Go.Proofs.Ytfeepmahipecpaa.pd Go.Proofs.Ytfeepmahipecpaa.owns

/-- A table of refs: the refs, and which pages are dirty. -/
structure Tb where
  (l : List Int)
  (d : List Bool)
/-- The ref that goes. -/
def Tb.went (t : Tb) (b : Nat) (ref : Int) : Int := if t.l.getD b 0 ≤ 0 ∨ t.l.getD b 0 = ref then 0 else t.l.getD b 0
def Tb.swap (t : Tb) (b : Nat) (ref : Int) : Tb := ⟨t.l.set b ref, if t.l.getD b 0 = ref then t.d else t.d.set (b / 15) true⟩
def Tb.step (s : Tb × List Int) (x : Nat × Int) : Tb × List Int := (s.1.swap x.1 x.2, if s.1.went x.1 x.2 = 0 then s.2 else s.2 ++ [s.1.went x.1 x.2])
def Tb.lay (t : Tb) (xs : List (Nat × Int)) : Tb × List Int := xs.foldl Tb.step (t, [])
theorem Tb.lay_nil (t : Tb) : t.lay [] = (t, []) := rfl
theorem Tb.lay_snoc (t : Tb) (pre : List (Nat × Int)) (x : Nat × Int) : t.lay (pre ++ [x]) = Tb.step (t.lay pre) x := by simp [Tb.lay, List.foldl_append]
theorem Tb.swap_len (t : Tb) (b : Nat) (ref : Int) : (t.swap b ref).l.length = t.l.length := by simp [Tb.swap]
theorem Tb.swap_dlen (t : Tb) (b : Nat) (ref : Int) : (t.swap b ref).d.length = t.d.length := by unfold Tb.swap; split <;> simp
theorem Tb.fold_len : ∀ (xs : List (Nat × Int)) (s : Tb × List Int), (xs.foldl Tb.step s).1.l.length = s.1.l.length ∧ (xs.foldl Tb.step s).1.d.length = s.1.d.length
  | [], _ => ⟨rfl, rfl⟩
  | x :: xs, s => by
    obtain ⟨h1, h2⟩ := Tb.fold_len xs (Tb.step s x)
    exact ⟨h1.trans (s.1.swap_len _ _), h2.trans (s.1.swap_dlen _ _)⟩
theorem Tb.lay_len (t : Tb) (xs : List (Nat × Int)) : (t.lay xs).1.l.length = t.l.length := (Tb.fold_len xs _).1
theorem Tb.lay_dlen (t : Tb) (xs : List (Nat × Int)) : (t.lay xs).1.d.length = t.d.length := (Tb.fold_len xs _).2
theorem Tb.gone_len (t : Tb) (xs : List (Nat × Int)) : (t.lay xs).2.length ≤ xs.length := by
  have : ∀ (xs : List (Nat × Int)) (s : Tb × List Int), (xs.foldl Tb.step s).2.length ≤ s.2.length + xs.length := fun xs => by
    induction xs with
    | nil => intro s; simp
    | cons x xs ih =>
      intro s
      have h1 := ih (Tb.step s x)
      have h2 : (Tb.step s x).2.length ≤ s.2.length + 1 := by unfold Tb.step; dsimp only; split <;> simp
      simp only [List.foldl_cons, List.length_cons]
      omega
  simpa [Tb.lay] using this xs (t, [])

abbrev ImT (w : World) (p V D : Nat) (t : Tb) : Prop := Pint w p V D 15 (t.l.map I) t.d

/-- The blocks of an image: its own, the base's three, the over's three. -/
structure Ib where
  (m p V D q U E : Nat)
def Ib.all (X : Ib) : List Nat := [X.m, X.p, X.V, X.D, X.q, X.U, X.E]
def Ib.tp (X : Ib) : Bool → Nat
  | true => X.q
  | false => X.p
def Ib.tv (X : Ib) : Bool → Nat
  | true => X.U
  | false => X.V
def Ib.td (X : Ib) : Bool → Nat
  | true => X.E
  | false => X.D
theorem Ib.mem (X : Ib) : X.m ∈ X.all ∧ X.p ∈ X.all ∧ X.V ∈ X.all ∧ X.D ∈ X.all ∧ X.q ∈ X.all ∧ X.U ∈ X.all ∧ X.E ∈ X.all := by simp [Ib.all]
theorem Ib.tmem (X : Ib) (ov : Bool) : X.tp ov ∈ X.all ∧ X.tv ov ∈ X.all ∧ X.td ov ∈ X.all := by cases ov <;> simp [Ib.all, Ib.tp, Ib.tv, Ib.td]
/-- What stands, and what is pending. -/
structure Im where
  (b o : Tb)
def Im.tb (M : Im) : Bool → Tb
  | true => M.o
  | false => M.b
def Im.put (M : Im) : Bool → Tb → Im
  | true, t => ⟨M.b, t⟩
  | false, t => ⟨t, M.o⟩
structure IAt (w : World) (X : Ib) (M : Im) : Prop where
  box : Blk w X.m 60 #[.pointer (some ⟨X.p, 0, none⟩), .pointer (some ⟨X.q, 0, none⟩)]
  base : ImT w X.p X.V X.D M.b
  over : ImT w X.q X.U X.E M.o
  len : M.o.l.length = M.b.l.length
  small : M.b.l.length ≤ 64
  apart : X.all.Nodup
theorem not2 {a b c : Nat} (h1 : ¬ a = b) (h2 : ¬ a = c) : a ∉ [b, c] := by simp [h1, h2]
section
variable {w w' : World} {X : Ib} {M : Im}
theorem IAt.tab (h : IAt w X M) (ov : Bool) : ImT w (X.tp ov) (X.tv ov) (X.td ov) (M.tb ov) := by cases ov; exact h.base; exact h.over
theorem IAt.tlen (h : IAt w X M) (ov : Bool) : (M.tb ov).l.length = M.b.l.length := by cases ov; rfl; exact h.len
theorem IAt.n1 (h : IAt w X M) : 1 ≤ M.b.l.length := by have := h.base.n1; rwa [List.length_map] at this
theorem IAt.lt (h : IAt w X M) : ∀ y ∈ X.all, y < w.heap.size := by
  intro y hy
  simp only [Ib.all, List.mem_cons, List.not_mem_nil, or_false] at hy
  rcases hy with rfl | rfl | rfl | rfl | rfl | rfl | rfl
  · exact h.box.lt
  · exact h.base.pl
  · exact h.base.Vl
  · exact h.base.Dl
  · exact h.over.pl
  · exact h.over.Vl
  · exact h.over.Dl
theorem IAt.kept {S : List Nat} (h : IAt w X M) (k : Kept S w w') (hs : ∀ y ∈ X.all, y ∉ S) : IAt w' X M := by
  obtain ⟨h1, h2, h3, h4, h5, h6, h7⟩ := X.mem
  exact { h with box := k.blk h.box (hs _ h1), base := h.base.kept k (hs _ h2) (hs _ h3) (hs _ h4), over := h.over.kept k (hs _ h5) (hs _ h6) (hs _ h7) }
theorem IAt.keep (h : IAt w X M) (k : Kept [] w w') : IAt w' X M := h.kept k (by simp)
/-- Blocks that are new. -/
theorem IAt.far {S : List Nat} {a : World} (h : IAt w X M) (ha : IAt a X M) (k : Kept S w w') (hs : ∀ y ∈ S, a.heap.size ≤ y) : IAt w' X M :=
  h.kept k (fun y hy hm => by have := ha.lt y hy; have := hs y hm; omega)
theorem IAt.turn (h : IAt w X M) (ov : Bool) {t : Tb} (k : Kept [X.tv ov, X.td ov] w w') (ht : ImT w' (X.tp ov) (X.tv ov) (X.td ov) t) (hl : t.l.length = (M.tb ov).l.length) : IAt w' X (M.put ov t) := by
  have ha := h.apart
  simp only [Ib.all, List.nodup_cons, List.mem_cons, List.not_mem_nil, or_false, not_or] at ha
  obtain ⟨⟨a1, a2, a3, a4, a5, a6⟩, ⟨b1, b2, b3, b4, b5⟩, ⟨c1, c2, c3, c4⟩, ⟨d1, d2, d3⟩, ⟨e1, e2⟩, f1, _⟩ := ha
  cases ov with
  | false =>
    simp only [Ib.tp, Ib.tv, Ib.td, Im.tb] at k ht hl
    exact ⟨k.blk h.box (not2 a2 a3), ht, h.over.kept k (not2 (Ne.symm c2) (Ne.symm d1)) (not2 (Ne.symm c3) (Ne.symm d2)) (not2 (Ne.symm c4) (Ne.symm d3)), h.len.trans hl.symm, by show t.l.length ≤ 64; rw [hl]; exact h.small, h.apart⟩
  | true =>
    simp only [Ib.tp, Ib.tv, Ib.td, Im.tb] at k ht hl
    exact ⟨k.blk h.box (not2 a5 a6), h.base.kept k (not2 b4 b5) (not2 c3 c4) (not2 d2 d3), ht, hl.trans h.len, h.small, h.apart⟩
end
end Go.Proofs.Ytfeepmahipecpaa.im
