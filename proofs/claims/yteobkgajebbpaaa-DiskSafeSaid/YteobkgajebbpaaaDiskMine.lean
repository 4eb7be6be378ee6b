/- A disk that a statement has made: the contracts as its walk wants them. -/
import Derived.Test.YteobkgajebbpaaaDiskCrash
import Derived.Test.YteobkgajebbpaaaAlike
namespace Go.Proofs.Yteobkgajebbpaaa.disk
open Go.RowKit Go.Proofs.Yteobkgajebbpaaa.mem Go.Proofs.Yteobkgajebbpaaa.base

/-- A disk of the walk's own: all of its memory was made behind the world w0. -/
def Mine (w0 w : World) (F : List Nat) (p : Nat) (D : Dk) : Prop := VD w F p D ∧ (∀ x ∈ F, w0.heap.size ≤ x) ∧ Kept [] w0 w

section
variable {w0 w w' : World} {F : List Nat} {p : Nat} {D D' : Dk}
theorem Mine.kept (h : Mine w0 w F p D) (k : Kept [] w w') : Mine w0 w' F p D := ⟨h.1.kept k (by simp), h.2.1, h.2.2.trans k (by simp)⟩
theorem Mine.drewN (h : Mine w0 w F p D) (n : Nat) : Mine w0 (w.drewN n) F p D := h.kept ((Kept.refl _ _).drewN n)
theorem Mine.drew (h : Mine w0 w F p D) : Mine w0 w.drew F p D := h.kept ((Kept.refl _ _).drew)
theorem Mine.alloc (h : Mine w0 w F p D) (o : Obj) : Mine w0 (w.alloc o) F p D := h.kept ((Kept.refl _ _).alloc o)
theorem Mine.turned (h : Mine w0 w F p D) (t : Turned w w' F p D') : ∃ F', Mine w0 w' F' p D' := by
  obtain ⟨F', hv, hs, hk⟩ := t
  have hle := h.2.2.size
  exact ⟨F', hv, fun x hx => by
    rcases hs x hx with h1 | h1
    · exact h.2.1 x h1
    · omega, h.2.2.trans hk (fun x hx => .inr (h.2.1 x hx))⟩
theorem Mine.below (h : Mine w0 w F p D) : Below w0.heap.size w0 w := h.2.2.below (by simp)
end

theorem mine_new (x : Int) (n : Nat) (w0 w : World) (hx : x = n) (hk : Kept [] w0 w) (h1 : 1 ≤ n) (h2 : n ≤ 4096) : Calls Try.prog 10 #[.int .i64 x] w fun e w' =>
    ∃ F p, e = .returned (.tuple #[.pointer (some ⟨p, 0, none⟩), .int .i64 0]) ∧ Mine w0 w' F p (Dk.new n) := by
  subst hx
  have hs := hk.size
  exact (new_ok n w h1 h2).mono fun e w' ⟨F, p, he, hv, hF, hk'⟩ => ⟨F, p, he, hv, fun x hx => by have := hF x hx; omega, hk.trans hk' (by simp)⟩

theorem mine_fill (w0 : World) (F : List Nat) (p : Nat) (D : Dk) (x : Int) (w : World) (h : Mine w0 w F p D) : Calls Try.prog 13 #[.int .i64 x] w fun e w' =>
    ∃ g, e = .returned (.slice (some ⟨g, 0, none⟩) 64 64) ∧ Mine w0 w' F p D ∧ (∀ S : List Nat, (∀ y ∈ S, y < w.heap.size) → Vals w' S (some ⟨g, 0, none⟩) ((fillOf x).map B)) ∧ Vals w' F (some ⟨g, 0, none⟩) ((fillOf x).map B) ∧ Kept [] w w' :=
  (fill_any x w).mono fun e w' ⟨g, he, hg, ha, hk⟩ => ⟨g, he, h.kept hk, fun S hS => ha.vals (fun hm => by have := hS _ hm; omega), ha.vals (fun hm => by have := h.1.lt _ hm; omega), hk⟩

theorem mine_write (w0 : World) (F : List Nat) (p : Nat) (D : Dk) (x : Int) (A : Option Addr) (n c : Nat) (bs : List UInt8) (k : Int) (D' : Dk) (w : World) (h : Mine w0 w F p D) (hb : D.acts < 1000000) (hv : Vals w F A (bs.map B)) (hl : bs.length = n) (hr : D.write x bs = (k, D')) :
    Calls Try.prog 12 #[.pointer (some ⟨p, 0, none⟩), .int .i64 x, .slice A n c] w fun e w' => e = .returned (.int .i64 k) ∧ ∃ F', Mine w0 w' F' p D' :=
  (write_at p F D x A n c bs w h.1 hb hv hl).mono fun e w' ⟨he, ht⟩ => by
    rw [hr] at he ht
    exact ⟨he, h.turned ht⟩
theorem mine_flush (w0 : World) (F : List Nat) (p : Nat) (D : Dk) (k : Int) (D' : Dk) (w : World) (h : Mine w0 w F p D) (hb : D.acts < 1000000) (hr : D.flush = (k, D')) :
    Calls Try.prog 15 #[.pointer (some ⟨p, 0, none⟩)] w fun e w' => e = .returned (.int .i64 k) ∧ ∃ F', Mine w0 w' F' p D' :=
  (flush_at p F D w h.1 hb).mono fun e w' ⟨he, ht⟩ => by
    rw [hr] at he ht
    exact ⟨he, h.turned ht⟩
theorem mine_fault (w0 : World) (F : List Nat) (p : Nat) (D : Dk) (x : Int) (o : Bool) (k : Int) (D' : Dk) (w : World) (h : Mine w0 w F p D) (hr : D.faulted x o = (k, D')) :
    Calls Try.prog 22 #[.pointer (some ⟨p, 0, none⟩), .int .i64 x, .bool o] w fun e w' => e = .returned (.int .i64 k) ∧ Mine w0 w' F p D' :=
  (fault_at p F D x o w h.1).mono fun e w' ⟨he, hv, hk⟩ => by
    rw [hr] at he hv
    exact ⟨he, hv, h.2.1, h.2.2.trans hk (fun x hx => .inr (h.2.1 x hx))⟩
theorem mine_fuse (w0 : World) (F : List Nat) (p : Nat) (D : Dk) (n : Int) (w : World) (h : Mine w0 w F p D) (hn : n < 9223372036854775808) :
    Calls Try.prog 20 #[.pointer (some ⟨p, 0, none⟩), .int .i64 n] w fun e w' => e = .returned (.tuple #[]) ∧ Mine w0 w' F p (D.fused n) :=
  (fuse_at p F D n w h.1 hn).mono fun e w' ⟨he, hv, hk⟩ => ⟨he, hv, h.2.1, h.2.2.trans hk (fun x hx => .inr (h.2.1 x (by simp at hx; subst hx; exact h.1.mem)))⟩
theorem mine_read (w0 : World) (F : List Nat) (p : Nat) (D : Dk) (x : Int) (k : Int) (bs : List UInt8) (n : Nat) (w : World) (h : Mine w0 w F p D) (hr : D.read x = (k, bs)) (hl : bs.length = n) :
    Calls Try.prog 17 #[.pointer (some ⟨p, 0, none⟩), .int .i64 x] w fun e w' => ∃ A c, e = .returned (.tuple #[.slice A n c, .int .i64 k]) ∧ Fresh w w' A n c bs ∧ Mine w0 w' F p D ∧ Kept [] w w' :=
  (read_at p F D x w h.1).mono fun e w' ⟨ha, hk⟩ => by
    rw [hr] at ha
    obtain ⟨A, c, he, hf⟩ := ha
    subst hl
    exact ⟨A, c, he, hf, h.kept hk, hk⟩
theorem mine_crash (w0 : World) (F : List Nat) (p : Nat) (D : Dk) (A : Option Addr) (n c : Nat) (l : List Int) (w : World) (h : Mine w0 w F p D) (hb : D.acts ≤ 1000000) (hv : Vals w [] A (l.map I)) (hl : l.length = n) :
    Calls Try.prog 24 #[.pointer (some ⟨p, 0, none⟩), .slice A n c] w fun e w' => ∃ F' q, e = .returned (.pointer (some ⟨q, 0, none⟩)) ∧ Mine w0 w' F' q (D.crash l) ∧ Mine w0 w' F p D ∧ (∀ x ∈ F', w.heap.size ≤ x) ∧ Kept [] w w' :=
  (crash_at p F D A n c l w h.1 hb hv hl).mono fun e w' ⟨F', q, he, hv', hF', hk⟩ => ⟨F', q, he, ⟨hv', fun x hx => by have := hF' x hx; have := h.2.2.size; omega, h.2.2.trans hk (by simp)⟩, h.kept hk, hF', hk⟩
theorem mine_held (w0 : World) (F : List Nat) (p : Nat) (D : Dk) (w : World) (h : Mine w0 w F p D) (n : Nat) (hn : D.held.length = n) : Calls Try.prog 28 #[.pointer (some ⟨p, 0, none⟩)] w fun e w' => e = .returned (.int .i64 n) ∧ w = w' := by
  subst hn
  exact held_at p F D w h.1
theorem mine_acts (w0 : World) (F : List Nat) (p : Nat) (D : Dk) (w : World) (h : Mine w0 w F p D) (n : Nat) (hn : D.acts = n) : Calls Try.prog 29 #[.pointer (some ⟨p, 0, none⟩)] w fun e w' => e = .returned (.int .i64 n) ∧ w = w' := by
  subst hn
  exact acts_at p F D w h.1
theorem mine_heldI (w0 : World) (F : List Nat) (p : Nat) (D : Dk) (w : World) (h : Mine w0 w F p D) (x : Int) (hx : (D.held.length : Int) = x) : Calls Try.prog 28 #[.pointer (some ⟨p, 0, none⟩)] w fun e w' => e = .returned (.int .i64 x) ∧ w = w' := by
  subst hx
  exact held_at p F D w h.1
theorem mine_actsI (w0 : World) (F : List Nat) (p : Nat) (D : Dk) (w : World) (h : Mine w0 w F p D) (x : Int) (hx : (D.acts : Int) = x) : Calls Try.prog 29 #[.pointer (some ⟨p, 0, none⟩)] w fun e w' => e = .returned (.int .i64 x) ∧ w = w' := by
  subst hx
  exact acts_at p F D w h.1
theorem mine_off (w0 : World) (F : List Nat) (p : Nat) (D : Dk) (w : World) (h : Mine w0 w F p D) (o : Bool) (ho : D.off = o) : Calls Try.prog 30 #[.pointer (some ⟨p, 0, none⟩)] w fun e w' => e = .returned (.bool o) ∧ w = w' := by
  subst ho
  exact off_at p F D w h.1
end Go.Proofs.Yteobkgajebbpaaa.disk
