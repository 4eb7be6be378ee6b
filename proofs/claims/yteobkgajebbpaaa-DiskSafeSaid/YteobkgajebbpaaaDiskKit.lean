/- Both disks side by side; keelsonkit's Same and Two. -/
import Derived.Test.YteobkgajebbpaaaRCrash
import Derived.BigQuiet
namespace Go.Proofs.Yteobkgajebbpaaa.disk
open Go.RowKit Go.Proofs.Yteobkgajebbpaaa.mem Go.Proofs.Yteobkgajebbpaaa.base

theorem quiet_eq {P : Program} {f : FuncId} {args : Array Value} {w : World} {n : Nat} {v : Value}
    (h : Calls P f args (w.drewN n) fun e w' => e = .returned v ∧ w.drewN n = w') : Calls P f args (w.drewN n) fun e w'' => e = .returned v ∧ ∃ m, w'' = w.drewN m :=
  h.mono fun _ _ ⟨he, hm⟩ => ⟨he, n, hm.symm⟩
/-- Equal, of what two Reads answered. -/
theorem equal_ans (A1 A2 : Option Addr) (c1 c2 : Nat) (xs : List UInt8) (w : World) (h1 : Vals w [] A1 (xs.map B)) (h2 : Vals w [] A2 (xs.map B)) (hm : xs.length ≤ 140737488355328) :
    Calls Try.prog 39 #[.slice A1 xs.length c1, .slice A2 xs.length c2] w fun e w' => e = .returned (.bool true) ∧ Kept [] w w' :=
  (equal_any A1 A2 c1 c2 xs xs w h1 h2 hm).mono fun e w' ⟨he, k, hw⟩ => ⟨by rw [he, decide_eq_true rfl], by rw [hw]; exact (Kept.refl _ _).drewN k⟩

theorem read_len (D : Dk) (x : Int) : (D.read x).2.length ≤ 64 := by
  unfold Dk.read
  split
  · simp
  · split
    · simp
    · split
      · simp
      · show (sec D.now x.toNat).length ≤ 64
        simp [sec]
        omega

set_option maxRecDepth 100000 in
set_option maxHeartbeats 1000000 in
theorem same_at (p r : Nat) (F G : List Nat) (D : Dk) (w : World) (hv : VD w F p D) (hr : RD w G r D) (hb : D.acts ≤ 1000000) :
    Calls Try.prog 26 #[.pointer (some ⟨p, 0, none⟩), .pointer (some ⟨r, 0, none⟩)] w fun e w' => e = .returned (.bool true) ∧ Kept [] w w' := by
  have HV := hide hv
  have HR := hide hr
  have hn2 := hv.1.n2
  have hfew : D.held.length ≤ 1000000 := by have := hv.1.few; omega
  obtain ⟨ho, gs, gf, hA, sgs, hgs, cs, cf, hc, fv, lA, lc, hD, hF⟩ := hr
  have c0 : w.cell? ⟨r, 0, none⟩ = some (.slice (some ⟨gs, 0, none⟩) D.n cs) := hD.blk.cell 0
  have c1 : w.cell? ⟨r, 1, none⟩ = some (.slice hA D.held.length hc) := hD.blk.cell 1
  have c4 : w.cell? ⟨r, 4, none⟩ = some (.bool D.off) := hD.blk.cell 4
  have c5 : w.cell? ⟨r, 5, none⟩ = some (.int .i64 D.acts) := hD.blk.cell 5
  have t1 : ((D.n : Int) != (D.n : Int)) = false := by simp
  have t2 : ((D.held.length : Int) != (D.held.length : Int)) = false := by simp
  have t3 : ((D.acts : Int) != (D.acts : Int)) = false := by simp
  have t4 : (D.off != D.off) = false := by simp
  have C0 := hide c0
  have HO := hide ho
  clear hv hD hF ho
  go_enter Try.func26, Try.ntmps26
  go_wp2
  go_quiet (first
    | (go_at_call 44; exact quiet_eq (sectors_at p F D _ (HV.out.drewN _)))
    | (go_at_call 28; exact quiet_eq (held_at p F D _ (HV.out.drewN _)))
    | (go_at_call 29; exact quiet_eq (acts_at p F D _ (HV.out.drewN _)))
    | (go_at_call 30; exact quiet_eq (off_at p F D _ (HV.out.drewN _))))
  have K0 : Hid (Kept [] w (w.drewN nq)) := hide ((Kept.refl [] w).drewN nq)
  generalize w.drewN nq = w1 at *
  clear c0 c1 c4 c5 t1 t2 t3 t4
  go_wp2
  go_loopw [5] (fun i wr => ∃ k : Nat, k ≤ D.n ∧ i = .int .i64 k ∧ Hid (Kept [] w wr)) (fun i wr => D.n - (intOf i).toNat)
  case atStart => exact ⟨0, Nat.zero_le _, rfl, K0⟩
  case round =>
    obtain ⟨k, hk, rfl, HK⟩ := hrel
    clear K0
    have c0 := HK.out.cell C0.out (by simp)
    by_cases hlt : k < D.n
    · have HRL := hide (read_len D (k : Int))
      go_wp2_with fail
      refine (read_at p F D k _ (HV.out.kept HK.out (by simp))).mono ?_
      rintro e w2 ⟨⟨A2, c2, rfl, hf2⟩, hk2⟩
      have HF2 := hide hf2.vals
      have HK2 := hide (HK.out.trans hk2 (by simp))
      clear hf2 hk2
      go_wp2_with fail
      refine (rread_at r G D k _ (HR.out.kept HK2.out (by simp)) hb).mono ?_
      rintro e w3 ⟨⟨A3, c3, rfl, hf3⟩, hk3⟩
      have HF3 := hide hf3.vals
      have HF23 := hide (HF2.out.kept hk3 (by simp))
      have HK3 := hide (HK2.out.trans hk3 (by simp))
      clear hf3 hk3 HF2 HK2
      generalize (D.read k).2 = bs at *
      have t5 : ((D.read k).1 != (D.read k).1) = false := by simp
      generalize (D.read k).1 = code at *
      generalize hbl : bs.length = bl at *
      have HBL := hide hbl
      clear hbl
      go_wp2_with fail
      refine (show Calls Try.prog 39 #[.slice A2 bl c2, .slice A3 bl c3] w3 fun e w' => e = .returned (.bool true) ∧ Kept [] w3 w' from by have := equal_ans A2 A3 c2 c3 bs w3 HF23.out HF3.out (by have := HRL.out; rw [HBL.out]; omega); rw [HBL.out] at this; exact this).mono ?_
      rintro e w4 ⟨rfl, hk4⟩
      have HK4 := hide (HK3.out.trans hk4 (by simp))
      clear hk4 c0
      go_wp2
      exact ⟨⟨k + 1, by omega, by go_num, HK4⟩, by simp [intOf]; omega⟩
    · obtain rfl : k = D.n := by omega
      go_wp2
      go_ret
      exact ⟨rfl, HK.out⟩

/-- Both disks of a walk's own, apart from each other. -/
structure Pr (w0 w : World) (F : List Nat) (p : Nat) (D : Dk) (G : List Nat) (r : Nat) (E : Dk) : Prop where
  a : Mine w0 w F p D
  b : RD w G r E
  new : ∀ x ∈ G, w0.heap.size ≤ x
  sep : ∀ x ∈ F, x ∉ G

section
variable {w0 w w' : World} {F G : List Nat} {p r : Nat} {D D' E E' : Dk}
theorem Pr.kept (h : Pr w0 w F p D G r E) (k : Kept [] w w') : Pr w0 w' F p D G r E := ⟨h.a.kept k, h.b.kept k (by simp), h.new, h.sep⟩
theorem Pr.left (h : Pr w0 w F p D G r E) (t : Turned w w' F p D') : ∃ F', Pr w0 w' F' p D' G r E ∧ (∀ x ∈ F', x ∈ F ∨ w.heap.size ≤ x) ∧ Kept F w w' := by
  obtain ⟨F', hv, hs, hk⟩ := t
  have hle := h.a.2.2.size
  refine ⟨F', ⟨⟨hv, fun x hx => ?_, h.a.2.2.trans hk (fun x hx => .inr (h.a.2.1 x hx))⟩, h.b.kept hk (fun x hx hm => h.sep x hm hx), h.new, fun x hx hm => ?_⟩, hs, hk⟩
  · rcases hs x hx with h1 | h1
    · exact h.a.2.1 x h1
    · omega
  · rcases hs x hx with h1 | h1
    · exact h.sep x h1 hm
    · have := h.b.lt x hm
      omega
theorem Pr.right (h : Pr w0 w F p D G r E) (t : RTurned w w' G r E') : ∃ G', Pr w0 w' F p D G' r E' ∧ (∀ x ∈ G', x ∈ G ∨ w.heap.size ≤ x) ∧ Kept G w w' := by
  obtain ⟨G', hv, hs, hk⟩ := t
  have hle := h.a.2.2.size
  refine ⟨G', ⟨⟨h.a.1.kept hk h.sep, h.a.2.1, h.a.2.2.trans hk (fun x hx => .inr (h.new x hx))⟩, hv, fun x hx => ?_, fun x hx hm => ?_⟩, hs, hk⟩
  · rcases hs x hx with h1 | h1
    · exact h.new x h1
    · omega
  · rcases hs x hm with h1 | h1
    · exact h.sep x hx h1
    · have := h.a.1.lt x hx
      omega
end

theorem two_at (x : Int) (n : Nat) (hx : x = n) (w : World) (h1 : 1 ≤ n) (h2 : n ≤ 4096) : Calls Try.prog 31 #[.int .i64 x] w fun e w' =>
    ∃ F p G r, e = .returned (.tuple #[.pointer (some ⟨p, 0, none⟩), .pointer (some ⟨r, 0, none⟩), .bool true]) ∧ Pr w w' F p (Dk.new n) G r (Dk.new n) := by
  subst hx
  go_enter Try.func31, Try.ntmps31
  go_wp2_with fail
  refine (mine_new (n : Int) n w _ rfl (Kept.refl _ _) h1 h2).mono ?_
  rintro e w1 ⟨F, p, rfl, hm⟩
  have HM := hide hm
  clear hm
  go_wp2_with fail
  refine (rnew_ok (n : Int) n rfl _ h1 h2).mono ?_
  rintro e w2 ⟨r, gs, gf, cs, sgs, rfl, hout, hk⟩
  have HP : Hid (∃ G, Pr w w2 F p (Dk.new n) G r (Dk.new n)) := hide (by
    obtain ⟨G, hrd, hG⟩ := rd_of_out hout h1 h2
    have hs := HM.out.2.2.size
    exact ⟨G, HM.out.kept hk, hrd, fun x hx => by have := hG x hx; omega, fun x hx hm => by have := HM.out.1.lt x hx; have := hG x hm; omega⟩)
  clear hout hk HM
  go_wp2
  go_ret3
  obtain ⟨G, hp⟩ := HP.out
  exact ⟨F, p, G, r, rfl, hp⟩
end Go.Proofs.Yteobkgajebbpaaa.disk
