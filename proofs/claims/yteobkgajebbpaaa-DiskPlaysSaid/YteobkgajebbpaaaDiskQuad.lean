/- Two pairs of disks, apart from each other. -/
import Derived.Test.YteobkgajebbpaaaDiskKit
namespace Go.Proofs.Yteobkgajebbpaaa.disk
open Go.RowKit Go.Proofs.Yteobkgajebbpaaa.mem Go.Proofs.Yteobkgajebbpaaa.base

theorem write_acts (D : Dk) (x : Int) (b : List UInt8) : (D.write x b).2.acts ≤ D.acts + 1 := by
  have h := (@ticked_same D).2.2.2
  unfold Dk.write
  split
  · split
    · show D.ticked.acts ≤ _
      omega
    · show D.ticked.acts ≤ _
      omega
  · show D.acts ≤ _
    omega
theorem flush_acts (D : Dk) : D.flush.2.acts ≤ D.acts + 1 := by
  have h := (@ticked_same D).2.2.2
  unfold Dk.flush
  split
  · show D.ticked.acts ≤ _
    omega
  · show D.ticked.acts ≤ _
    omega

section
variable {w0 w w' : World} {F G F2 G2 : List Nat} {p r p2 r2 : Nat} {D D' E E' D2 D2' E2 E2' : Dk}
theorem Pr.far (h : Pr w0 w F p D G r E) {S : List Nat} (k : Kept S w w') (h1 : ∀ x ∈ F, x ∉ S) (h2 : ∀ x ∈ G, x ∉ S) (h3 : ∀ x ∈ S, w0.heap.size ≤ x) : Pr w0 w' F p D G r E :=
  ⟨⟨h.a.1.kept k h1, h.a.2.1, h.a.2.2.trans k (fun x hx => .inr (h3 x hx))⟩, h.b.kept k h2, h.new, h.sep⟩

theorem pr_fill (x : Int) (h : Pr w0 w F p D G r E) : Calls Try.prog 13 #[.int .i64 x] w fun e w' =>
    ∃ g, e = .returned (.slice (some ⟨g, 0, none⟩) 64 64) ∧ Pr w0 w' F p D G r E ∧ Vals w' F (some ⟨g, 0, none⟩) ((fillOf x).map B) ∧ Vals w' G (some ⟨g, 0, none⟩) ((fillOf x).map B) ∧ Kept [] w w' ∧ w.heap.size ≤ g :=
  (fill_any x w).mono fun e w' ⟨g, he, hg, ha, hk⟩ => ⟨g, he, h.kept hk, ha.vals (fun hm => by have := h.a.1.lt _ hm; omega), ha.vals (fun hm => by have := h.b.lt _ hm; omega), hk, hg⟩

/-- Two pairs. -/
structure Qd (w0 w : World) (F : List Nat) (p : Nat) (D : Dk) (G : List Nat) (r : Nat) (E : Dk) (F2 : List Nat) (p2 : Nat) (D2 : Dk) (G2 : List Nat) (r2 : Nat) (E2 : Dk) : Prop where
  a : Pr w0 w F p D G r E
  b : Pr w0 w F2 p2 D2 G2 r2 E2
  ff : ∀ x ∈ F, x ∉ F2 ∧ x ∉ G2
  gg : ∀ x ∈ G, x ∉ F2 ∧ x ∉ G2
theorem Qd.kept (h : Qd w0 w F p D G r E F2 p2 D2 G2 r2 E2) (k : Kept [] w w') : Qd w0 w' F p D G r E F2 p2 D2 G2 r2 E2 := ⟨h.a.kept k, h.b.kept k, h.ff, h.gg⟩
theorem Qd.left (h : Qd w0 w F p D G r E F2 p2 D2 G2 r2 E2) (t : Turned w w' F p D') : ∃ F', Qd w0 w' F' p D' G r E F2 p2 D2 G2 r2 E2 := by
  obtain ⟨F', hp, hs, hk⟩ := h.a.left t
  refine ⟨F', hp, h.b.far hk (fun x hx hm => (h.ff x hm).1 hx) (fun x hx hm => (h.ff x hm).2 hx) (fun x hx => h.a.a.2.1 x hx), fun x hx => ?_, h.gg⟩
  rcases hs x hx with h1 | h1
  · exact h.ff x h1
  · exact ⟨fun hm => by have := h.b.a.1.lt x hm; omega, fun hm => by have := h.b.b.lt x hm; omega⟩
theorem Qd.right (h : Qd w0 w F p D G r E F2 p2 D2 G2 r2 E2) (t : RTurned w w' G r E') : ∃ G', Qd w0 w' F p D G' r E' F2 p2 D2 G2 r2 E2 := by
  obtain ⟨G', hp, hs, hk⟩ := h.a.right t
  refine ⟨G', hp, h.b.far hk (fun x hx hm => (h.gg x hm).1 hx) (fun x hx hm => (h.gg x hm).2 hx) (fun x hx => h.a.new x hx), h.ff, fun x hx => ?_⟩
  rcases hs x hx with h1 | h1
  · exact h.gg x h1
  · exact ⟨fun hm => by have := h.b.a.1.lt x hm; omega, fun hm => by have := h.b.b.lt x hm; omega⟩
theorem Qd.left2 (h : Qd w0 w F p D G r E F2 p2 D2 G2 r2 E2) (t : Turned w w' F2 p2 D2') : ∃ F2', Qd w0 w' F p D G r E F2' p2 D2' G2 r2 E2 := by
  obtain ⟨F', hp, hs, hk⟩ := h.b.left t
  refine ⟨F', h.a.far hk (fun x hx => (h.ff x hx).1) (fun x hx => (h.gg x hx).1) (fun x hx => h.b.a.2.1 x hx), hp, fun x hx => ⟨fun hm => ?_, (h.ff x hx).2⟩, fun x hx => ⟨fun hm => ?_, (h.gg x hx).2⟩⟩
  · rcases hs x hm with h1 | h1
    · exact (h.ff x hx).1 h1
    · have := h.a.a.1.lt x hx; omega
  · rcases hs x hm with h1 | h1
    · exact (h.gg x hx).1 h1
    · have := h.a.b.lt x hx; omega
theorem qd_fill (x : Int) (h : Qd w0 w F p D G r E F2 p2 D2 G2 r2 E2) : Calls Try.prog 13 #[.int .i64 x] w fun e w' =>
    ∃ g, e = .returned (.slice (some ⟨g, 0, none⟩) 64 64) ∧ Qd w0 w' F p D G r E F2 p2 D2 G2 r2 E2 ∧ Vals w' F (some ⟨g, 0, none⟩) ((fillOf x).map B) ∧ Vals w' G (some ⟨g, 0, none⟩) ((fillOf x).map B) ∧ Vals w' F2 (some ⟨g, 0, none⟩) ((fillOf x).map B) :=
  (fill_any x w).mono fun e w' ⟨g, he, hg, ha, hk⟩ => ⟨g, he, h.kept hk, ha.vals (fun hm => by have := h.a.a.1.lt _ hm; omega), ha.vals (fun hm => by have := h.a.b.lt _ hm; omega), ha.vals (fun hm => by have := h.b.a.1.lt _ hm; omega)⟩
end

theorem pr_write (w0 : World) {F G : List Nat} {p r : Nat} {D E : Dk} (x : Int) (A : Option Addr) (n c : Nat) (bs : List UInt8) (w : World) (h : Pr w0 w F p D G r E) (hb : D.acts < 1000000) (hv : Vals w F A (bs.map B)) (hl : bs.length = n) :
    Calls Try.prog 12 #[.pointer (some ⟨p, 0, none⟩), .int .i64 x, .slice A n c] w fun e w' => e = .returned (.int .i64 (D.write x bs).1) ∧ (∃ F', Pr w0 w' F' p (D.write x bs).2 G r E) ∧ (∀ A2 zs, Vals w F A2 zs → Vals w' [] A2 zs) ∧ (∀ A2 zs, Vals w G A2 zs → Vals w F A2 zs → Vals w' G A2 zs) :=
  (write_at p F D x A n c bs w h.a.1 hb hv hl).mono fun e w' ⟨he, ht⟩ => by
    obtain ⟨F', hp, _, hk⟩ := h.left ht
    refine ⟨he, ⟨F', hp⟩, fun A2 zs hz => (hz.kept hk (fun _ h => h)).mono (by simp), fun A2 zs hz hz2 => ?_⟩
    intro i v hi
    obtain ⟨ad, h1, h2, h3⟩ := hz i v hi
    obtain ⟨ad', h4, h5, h6⟩ := hz2 i v hi
    rw [h1] at h4
    injection h4 with h4
    subst h4
    exact ⟨ad, h1, h2, hk.cell h3 (by rw [block_of_add]; exact h5)⟩
theorem pr_rwrite (w0 : World) {F G : List Nat} {p r : Nat} {D E : Dk} (x : Int) (A : Option Addr) (n c : Nat) (bs : List UInt8) (w : World) (h : Pr w0 w F p D G r E) (hb : E.acts < 1000000) (hv : Vals w G A (bs.map B)) (hl : bs.length = n) (hc : n ≤ c) :
    Calls Try.prog 14 #[.pointer (some ⟨r, 0, none⟩), .int .i64 x, .slice A n c] w fun e w' => e = .returned (.int .i64 (E.write x bs).1) ∧ ∃ G', Pr w0 w' F p D G' r (E.write x bs).2 :=
  (rwrite_at r G E x A n c bs w h.b hb hv hl hc).mono fun e w' ⟨he, ht⟩ => by
    obtain ⟨G', hp, _, _⟩ := h.right ht
    exact ⟨he, G', hp⟩
theorem pr_flush (w0 : World) {F G : List Nat} {p r : Nat} {D E : Dk} (w : World) (h : Pr w0 w F p D G r E) (hb : D.acts < 1000000) :
    Calls Try.prog 15 #[.pointer (some ⟨p, 0, none⟩)] w fun e w' => e = .returned (.int .i64 D.flush.1) ∧ ∃ F', Pr w0 w' F' p D.flush.2 G r E :=
  (flush_at p F D w h.a.1 hb).mono fun e w' ⟨he, ht⟩ => by
    obtain ⟨F', hp, _, _⟩ := h.left ht
    exact ⟨he, F', hp⟩
theorem pr_rflush (w0 : World) {F G : List Nat} {p r : Nat} {D E : Dk} (w : World) (h : Pr w0 w F p D G r E) (hb : E.acts < 1000000) :
    Calls Try.prog 16 #[.pointer (some ⟨r, 0, none⟩)] w fun e w' => e = .returned (.int .i64 E.flush.1) ∧ ∃ G', Pr w0 w' F p D G' r E.flush.2 :=
  (rflush_at r G E w h.b hb).mono fun e w' ⟨he, ht⟩ => by
    obtain ⟨G', hp, _, _⟩ := h.right ht
    exact ⟨he, G', hp⟩
end Go.Proofs.Yteobkgajebbpaaa.disk
