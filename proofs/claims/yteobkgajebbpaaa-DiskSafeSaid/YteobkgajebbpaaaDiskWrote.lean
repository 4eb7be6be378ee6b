/- Write, whatever it is given. -/
import Derived.Test.YteobkgajebbpaaaDiskWrite
namespace Go.Proofs.Yteobkgajebbpaaa.disk
open Go.RowKit Go.Proofs.Yteobkgajebbpaaa.mem Go.Proofs.Yteobkgajebbpaaa.base

theorem Turned.same {w : World} {F : List Nat} {p : Nat} {D : Dk} (h : VD w F p D) : Turned w w F p D := ⟨F, h, fun _ hx => .inl hx, Kept.refl _ _⟩
theorem Turned.of_kept {w w' : World} {F S : List Nat} {p : Nat} {D : Dk} (h : VD w' F p D) (k : Kept S w w') (hs : ∀ x ∈ S, x ∈ F) : Turned w w' F p D := ⟨F, h, fun _ hx => .inl hx, k.mono (fun x hx => .inl (hs x hx))⟩

theorem write_bad (p : Nat) (F : List Nat) (D : Dk) (x : Int) (A : Option Addr) (n c : Nat) (w : World) (h : VD w F p D) (hx : D.has x = false ∨ n ≠ 64) :
    Calls Try.prog 12 #[.pointer (some ⟨p, 0, none⟩), .int .i64 x, .slice A n c] w fun e w' => e = .returned (.int .i64 1) ∧ w = w' := by
  have H := hide h
  clear h
  obtain ⟨q, hq⟩ : ∃ q, D.has x = q := ⟨_, rfl⟩
  have HQ := hide hq
  rw [hq] at hx
  clear hq
  cases q
  · clear hx
    go_enter Try.func12, Try.ntmps12
    go_wp2_with fail
    refine (has_at p F D x _ H.out).mono ?_
    rintro e w' ⟨rfl, rfl⟩
    rw [HQ.out]
    go_wp2
    go_ret
    exact ⟨rfl, rfl⟩
  · have hn : (n : Int) ≠ 64 := by
      rcases hx with hx | hx
      · cases hx
      · omega
    clear hx
    go_enter Try.func12, Try.ntmps12
    go_wp2_with fail
    refine (has_at p F D x _ H.out).mono ?_
    rintro e w' ⟨rfl, rfl⟩
    rw [HQ.out]
    go_wp2
    go_ret
    exact ⟨rfl, rfl⟩

theorem write_off (p : Nat) (F : List Nat) (D : Dk) (x : Int) (A : Option Addr) (c : Nat) (w : World) (h : VD w F p D) (hb : D.acts < 1000000) (hx : D.has x = true) (ht : D.tick = false) :
    Calls Try.prog 12 #[.pointer (some ⟨p, 0, none⟩), .int .i64 x, .slice A 64 c] w fun e w' => e = .returned (.int .i64 3) ∧ Turned w w' F p D.ticked := by
  have H := hide h
  have HQ := hide hx
  have HT := hide ht
  have HM := hide h.mem
  clear h hx ht
  go_enter Try.func12, Try.ntmps12
  go_wp2_with fail
  refine (has_at p F D x _ H.out).mono ?_
  rintro e w' ⟨rfl, rfl⟩
  rw [HQ.out]
  go_wp2_with fail
  refine (act_at p F D _ H.out hb).mono ?_
  rintro e w1 ⟨rfl, hd, hk⟩
  rw [HT.out]
  go_wp2
  go_ret
  exact ⟨rfl, Turned.of_kept hd hk (fun z hz => by simp at hz; subst hz; exact HM.out)⟩

theorem write_at (p : Nat) (F : List Nat) (D : Dk) (x : Int) (A : Option Addr) (n c : Nat) (bs : List UInt8) (w : World) (h : VD w F p D) (hb : D.acts < 1000000) (hv : Vals w F A (bs.map B)) (hl : bs.length = n) :
    Calls Try.prog 12 #[.pointer (some ⟨p, 0, none⟩), .int .i64 x, .slice A n c] w fun e w' => e = .returned (.int .i64 (D.write x bs).1) ∧ Turned w w' F p (D.write x bs).2 := by
  by_cases hx : D.has x = false ∨ n ≠ 64
  · have e1 : D.write x bs = (1, D) := by
      unfold Dk.write
      rw [if_neg]
      intro hc
      simp at hc
      rcases hx with hx | hx
      · rw [hx] at hc; exact absurd hc.1 (by simp)
      · exact hx (by omega)
    rw [e1]
    exact (write_bad p F D x A n c w h hx).mono fun e w' ⟨he, hw⟩ => ⟨he, by subst hw; exact Turned.same h⟩
  · have hx1 : D.has x = true := by
      cases hq : D.has x
      · exact absurd (.inl hq) hx
      · rfl
    have hn : n = 64 := by
      rcases Nat.decEq n 64 with h | h
      · exact absurd (.inr h) hx
      · exact h
    subst hn
    have hc : (D.has x && bs.length == 64) = true := by rw [hx1, hl]; rfl
    cases ht : D.tick
    · have e1 : D.write x bs = (3, D.ticked) := by
        unfold Dk.write
        rw [if_pos hc, ht]
        rfl
      rw [e1]
      exact write_off p F D x A c w h hb hx1 ht
    · have e1 : D.write x bs = (0, { D.ticked with held := D.ticked.held ++ [(x.toNat, bs)] }) := by
        unfold Dk.write
        rw [if_pos hc, ht, ticked_same.2.1]
        rfl
      rw [e1]
      exact write_ok p F D x A c bs w h hb hv hl hx1 ht
end Go.Proofs.Yteobkgajebbpaaa.disk
