/- ScanStops: its walk (made by tools/gen13/gstops.py). -/
import Derived.Test.YtjbdjdlmpcbakaaGreatQScanLogMath
import Derived.Test.YtjbdjdlmpcbakaaGreatQScanKss
import Derived.Test.YtjbdjdlmpcbakaaGreatQOrders
import Derived.Deep.CutRange
namespace Go.Proofs.YtjbdjdlmpcbakaaGreat.sc
set_option linter.unusedSimpArgs false
open Go.RowKit Go.Proofs.YtjbdjdlmpcbakaaGreat.mem Go.Proofs.YtjbdjdlmpcbakaaGreat.base Go.Proofs.YtjbdjdlmpcbakaaGreat.disk Go.Proofs.YtjbdjdlmpcbakaaGreat.owns
open Go.Proofs.YtjbdjdlmpcbakaaGreat.record (Rc RcIn RcAt put5 put5_kept cell5)
open Go.Proofs.YtjbdjdlmpcbakaaGreat.geom (GAt Rf segAt)
attribute [local go_sem] Oper.semAt_some
theorem upto5 {W W' : World} {S : List Nat} {b : Nat} {v0 v1 v2 v3 v4 : Value} (h : W.cell? ⟨b, 0, none⟩ = some v0 ∧ W.cell? ⟨b, 1, none⟩ = some v1 ∧ W.cell? ⟨b, 2, none⟩ = some v2 ∧ W.cell? ⟨b, 3, none⟩ = some v3 ∧ W.cell? ⟨b, 4, none⟩ = some v4) (k : Kept S W W') (hb : b ∉ S) :
    W'.cell? ⟨b, 0, none⟩ = some v0 ∧ W'.cell? ⟨b, 1, none⟩ = some v1 ∧ W'.cell? ⟨b, 2, none⟩ = some v2 ∧ W'.cell? ⟨b, 3, none⟩ = some v3 ∧ W'.cell? ⟨b, 4, none⟩ = some v4 :=
  ⟨k.cell h.1 hb, k.cell h.2.1 hb, k.cell h.2.2.1 hb, k.cell h.2.2.2.1 hb, k.cell h.2.2.2.2 hb⟩

/-- What the loop keeps: the disks, the Config, two places. -/
structure Lo (wr w : World) (F G : List Nat) (d rd g b5 b10 b11 : Nat) (D : Dk) (b s l r q : Int) (p x : Ps) : Prop where
  lw : Lw wr w F G d rd g D b s l r q
  c : Blk wr b5 29 #[.int .i64 b, .int .i64 s, .int .i64 l]
  p : Blk wr b10 24 #[.int .i64 p.s, .int .i64 p.o, .int .i64 p.l, .int .i64 p.v, .int .i64 p.m]
  q : Blk wr b11 24 #[.int .i64 x.s, .int .i64 x.o, .int .i64 x.l, .int .i64 x.v, .int .i64 x.m]
  ap : ∀ y, (y = b5 ∨ y = b10 ∨ y = b11) → y ∉ F ++ G
  new : w.heap.size ≤ b5 ∧ w.heap.size ≤ b10 ∧ w.heap.size ≤ b11
  ne : b5 ≠ b11 ∧ b10 ≠ b11 ∧ g ≠ b11
theorem Lo.keep {wr wr' w : World} {F G : List Nat} {d rd g b5 b10 b11 : Nat} {D : Dk} {b s l r q : Int} {p x : Ps} (h : Lo wr w F G d rd g b5 b10 b11 D b s l r q p x) (k : Kept [] wr wr') : Lo wr' w F G d rd g b5 b10 b11 D b s l r q p x :=
  ⟨h.lw.keep k, k.blk h.c (by simp), k.blk h.p (by simp), k.blk h.q (by simp), h.ap, h.new, h.ne⟩
theorem Lo.put {wr wr' w : World} {F G : List Nat} {d rd g b5 b10 b11 : Nat} {D D' : Dk} {b s l r q : Int} {p x : Ps} (h : Lo wr w F G d rd g b5 b10 b11 D b s l r q p x) (t : DdTo wr wr' F d G rd D') : ∃ F' G', Lo wr' w F' G' d rd g b5 b10 b11 D' b s l r q p x ∧ Kept (F ++ G) wr wr' := by
  obtain ⟨F', G', h1, h2, h3⟩ := h.lw.put t
  exact ⟨F', G', ⟨h1, h3.blk h.c (h.ap _ (.inl rfl)), h3.blk h.p (h.ap _ (.inr (.inl rfl))), h3.blk h.q (h.ap _ (.inr (.inr rfl))), fun y hy => h2 y (h.ap y hy) (by
    rcases hy with rfl | rfl | rfl
    · exact h.c.lt
    · exact h.p.lt
    · exact h.q.lt), h.new, h.ne⟩, h3⟩
/-- The place goes on. -/
theorem Lo.go {wr w : World} {F G : List Nat} {d rd g b5 b10 b11 : Nat} {D : Dk} {b s l r q : Int} {p x : Ps} (h : Lo wr w F G d rd g b5 b10 b11 D b s l r q p x) (y : Ps) : Lo (((((wr.setCell ⟨b11, 0, none⟩ (.int .i64 y.s)).setCell ⟨b11, 1, none⟩ (.int .i64 y.o)).setCell ⟨b11, 2, none⟩ (.int .i64 y.l)).setCell ⟨b11, 3, none⟩ (.int .i64 y.v)).setCell ⟨b11, 4, none⟩ (.int .i64 y.m)) w F G d rd g b5 b10 b11 D b s l r q p y := by
  have hk := put5_kept (g := b11) (S := [b11]) (.int .i64 y.s) (.int .i64 y.o) (.int .i64 y.l) (.int .i64 y.v) (.int .i64 y.m) (Kept.refl [b11] wr) (.inl (by simp))
  have hn := h.ne
  exact ⟨h.lw.keepS hk (by simpa using h.ap b11 (.inr (.inr rfl))) (by simpa using hn.2.2) (by simpa using h.new.2.2), hk.blk h.c (by simpa using hn.1), hk.blk h.p (by simpa using hn.2.1), put5 _ _ _ _ _ h.q, h.ap, h.new, h.ne⟩

end Go.Proofs.YtjbdjdlmpcbakaaGreat.sc
