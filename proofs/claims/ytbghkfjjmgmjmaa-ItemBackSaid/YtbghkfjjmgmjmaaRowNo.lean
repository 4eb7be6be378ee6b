import Derived.Test.YtbghkfjjmgmjmaaRowMore
namespace Go.Proofs.Ytbghkfjjmgmjmaa.row
open Go.RowKit Go.Proofs.Ytbghkfjjmgmjmaa.mem

theorem put_width (p : Nat) (x : Int) (L : Option Addr) (n c : Nat) (w : World) (hx : isW x = false) :
    Calls Try.prog 24 #[.pointer (some ⟨p, 0, none⟩), .int .i64 x, .slice L n c] w fun e w' => e = .returned (.bool false) ∧ w = w' := by
  have HX := hide hx
  clear hx
  go_enter Try.func24, Try.ntmps24
  go_wp2_with (go_at_call 35; refine (isWidth_no _ _ HX.out).mono ?_; rintro e w' ⟨rfl, rfl⟩)
  go_ret
  exact ⟨rfl, rfl⟩

theorem put_unfit (q : Option Addr) (x : Int) (L : Option Addr) (l : List Int) (c : Nat) (S : List Nat) (w : World) (hx : isW x = true) (hl : Vals w S L (l.map I)) (hf : ∃ n ∈ l, fitsW x n = false) (hm : l.length ≤ 140737488355328) :
    Calls Try.prog 24 #[.pointer q, .int .i64 x, .slice L l.length c] w fun e w' => e = .returned (.bool false) ∧ w = w' := by
  have HX := hide hx
  clear hx
  have HF := hide hf
  clear hf
  have HL := hide hl
  clear hl
  go_enter Try.func24, Try.ntmps24
  go_wp2_with (go_at_call 35; refine (isWidth_yes _ _ HX.out).mono ?_; rintro e w' ⟨rfl, rfl⟩)
  go_loop [17] (fun i => ∃ k : Nat, k ≤ l.length ∧ i = .int .i64 k ∧ Hid (∀ j (h : j < l.length), j < k → fitsW x l[j] = true)) (fun i => l.length - (intOf i).toNat)
  case atStart => exact ⟨0, Nat.zero_le _, rfl, hide (fun _ _ h => absurd h (by omega))⟩
  case round =>
    obtain ⟨k, hk, rfl, hall⟩ := hrel
    by_cases hlt : k < l.length
    · obtain ⟨ad, rfl, hn, hc⟩ := HL.out k (I l[k]) (by simp [hlt])
      unfold I at hc
      by_cases hfk : fitsW x l[k] = true
      · have HK := hide hfk
        clear hfk
        go_wp2_with (go_at_call 36; refine (holds_yes _ _ _ HX.out HK.out).mono ?_; rintro e w' ⟨rfl, rfl⟩)
        go_round
        case rel =>
          refine ⟨k + 1, by omega, by go_num, hide (fun j h hj => ?_)⟩
          rcases Nat.lt_or_ge j k with h1 | h1
          · exact hall.out j h h1
          · obtain rfl : j = k := by omega
            exact HK.out
        case measure => simp [intOf]; omega
      · have HK := hide ((Bool.not_eq_true _).mp hfk)
        clear hfk
        go_wp2_with (go_at_call 36; refine (holds_no _ _ _ HX.out HK.out).mono ?_; rintro e w' ⟨rfl, rfl⟩)
        go_ret
        exact ⟨rfl, rfl⟩
    · exfalso
      obtain ⟨n, hn, hnf⟩ := HF.out
      obtain ⟨j, hj, rfl⟩ := List.getElem_of_mem hn
      have := hall.out j hj (by omega)
      rw [this] at hnf
      cases hnf

theorem put_long (p b cap : Nat) (A : Option Addr) (R : Row) (x : Int) (L : Option Addr) (l : List Int) (c : Nat) (S : List Nat) (w : World) (h : RowAt w p b cap A R) (hx : isW x = true) (hl : Vals w S L (l.map I))
    (hf : ∀ n ∈ l, fitsW x n = true) (hm : l.length ≤ 140737488355328) (hr : (R.bs.length : Int) < R.pos + x * l.length) :
    Calls Try.prog 24 #[.pointer (some ⟨p, 0, none⟩), .int .i64 x, .slice L l.length c] w fun e w' => e = .returned (.bool false) ∧ ∃ k, w' = w.drewN k := by
  have hlen := h.len_le
  have hpl := h.pos_le
  have H := hide h
  clear h
  have hx' : x = 1 ∨ x = 2 ∨ x = 4 := by simpa [isW, or_assoc] using hx
  clear hx
  have HL := hide hl
  clear hl
  have HF := hide hf
  clear hf
  have HR := hide hr
  clear hr
  rcases hx' with rfl | rfl | rfl
  all_goals
    go_enter Try.func24, Try.ntmps24
    go_wp2_with (go_at_call 35; refine (isWidth_yes _ _ rfl).mono ?_; rintro e w' ⟨rfl, rfl⟩)
    go_loop [17] (fun i => ∃ k : Nat, k ≤ l.length ∧ i = .int .i64 k) (fun i => l.length - (intOf i).toNat)
    case atStart => exact ⟨0, Nat.zero_le _, rfl⟩
    case round =>
      obtain ⟨k, hk, rfl⟩ := hrel
      by_cases hlt : k < l.length
      · obtain ⟨ad, rfl, hn, hc⟩ := HL.out k (I l[k]) (by simp [hlt])
        have hfk := hide (HF.out l[k] (List.getElem_mem hlt))
        unfold I at hc
        go_wp2_with (go_at_call 36; refine (holds_yes _ _ _ rfl hfk.out).mono ?_; rintro e w' ⟨rfl, rfl⟩)
        go_round
        case rel => exact ⟨k + 1, by omega, by go_num⟩
        case measure => simp [intOf]; omega
      · obtain rfl : k = l.length := by omega
        go_wp2_with (go_at_call 37; refine (next_no p A R.bs.length cap R.pos _ _ H.out.c0 H.out.c1 (by omega) (by omega) (by omega) (by have := HR.out; omega)).mono ?_; rintro e w' ⟨rfl, k, rfl⟩)
        go_loop [37] (fun i => i = .int .i64 0) (fun _ => 0)
        case atStart => rfl
        case round =>
          obtain rfl := hrel
          go_wp2
          go_ret
          exact ⟨rfl, k, rfl⟩

/-- Put, as the document has it. -/
def Row.put (R : Row) (x : Int) (l : List Int) : Bool × Row :=
  if isW x = true ∧ (∀ n ∈ l, fitsW x n = true) ∧ R.pos + x.toNat * l.length ≤ R.bs.length then (true, ⟨over R.bs R.pos (bytesOf x.toNat l), R.pos + x.toNat * l.length⟩) else (false, R)

theorem put_at (p b cap : Nat) (A : Option Addr) (R : Row) (x : Int) (L : Option Addr) (l : List Int) (c : Nat) (w : World) (h : RowAt w p b cap A R) (hl : Vals w [p, b] L (l.map I)) (hm : l.length ≤ 140737488355328) :
    Calls Try.prog 24 #[.pointer (some ⟨p, 0, none⟩), .int .i64 x, .slice L l.length c] w fun e w' =>
      e = .returned (.bool (R.put x l).1) ∧ RowAt w' p b cap A (R.put x l).2 ∧ Kept [p, b] w w' := by
  have hlen := h.len_le
  by_cases hx : isW x = true
  · by_cases hf : ∀ n ∈ l, fitsW x n = true
    · have hx' : x = 1 ∨ x = 2 ∨ x = 4 := by simpa [isW, or_assoc] using hx
      by_cases hr : R.pos + x.toNat * l.length ≤ R.bs.length
      · have e : R.put x l = (true, ⟨over R.bs R.pos (bytesOf x.toNat l), R.pos + x.toNat * l.length⟩) := if_pos ⟨hx, hf, hr⟩
        rw [e]
        rcases hx' with rfl | rfl | rfl
        · have hr' : R.pos + l.length ≤ R.bs.length := by simp at hr; omega
          refine (put_ok1 p b cap A R L l c w h hl hf hr').mono fun e w' ⟨h1, h2, h3⟩ => ⟨h1, ?_, h3⟩
          simpa using h2
        · exact put_ok2 p b cap A R L l c w h hl hf hr
        · exact put_ok4 p b cap A R L l c w h hl hf hr
      · have e : R.put x l = (false, R) := if_neg (fun h => hr h.2.2)
        rw [e]
        refine (put_long p b cap A R x L l c [p, b] w h hx hl hf hm ?_).mono fun e w' ⟨h1, k, h2⟩ => ⟨h1, by subst h2; exact h.drewN k, by subst h2; exact (Kept.refl _ w).drewN k⟩
        rcases hx' with rfl | rfl | rfl <;> simp at hr <;> omega
    · have e : R.put x l = (false, R) := if_neg (fun h => hf h.2.1)
      rw [e]
      refine (put_unfit _ x L l c [p, b] w hx hl ?_ hm).mono fun e w' ⟨h1, h2⟩ => ⟨h1, by subst h2; exact h, by subst h2; exact Kept.refl _ _⟩
      simpa using hf
  · have e : R.put x l = (false, R) := if_neg (fun h => hx h.1)
    rw [e]
    exact (put_width p x L l.length c w ((Bool.not_eq_true _).mp hx)).mono fun e w' ⟨h1, h2⟩ => ⟨h1, by subst h2; exact h, by subst h2; exact Kept.refl _ _⟩

theorem put_len (p b cap : Nat) (A : Option Addr) (R : Row) (x : Int) (L : Option Addr) (l : List Int) (n c : Nat) (w : World) (hn : l.length = n) (h : RowAt w p b cap A R) (hl : Vals w [p, b] L (l.map I)) (hm : n ≤ 140737488355328) :
    Calls Try.prog 24 #[.pointer (some ⟨p, 0, none⟩), .int .i64 x, .slice L n c] w fun e w' =>
      e = .returned (.bool (R.put x l).1) ∧ RowAt w' p b cap A (R.put x l).2 ∧ Kept [p, b] w w' := by
  subst hn
  exact put_at p b cap A R x L l c w h hl hm

theorem left_eq (p b cap : Nat) (A : Option Addr) (R : Row) (n : Int) (w : World) (h : RowAt w p b cap A R) (hn : n = (R.bs.length : Int) - R.pos) :
    Calls Try.prog 43 #[.pointer (some ⟨p, 0, none⟩)] w fun e w' => e = .returned (.int .i64 n) ∧ ∃ k, w' = w.drewN k := by
  subst hn
  exact left_at p b cap A R w h

/-- Lay, Get, Take, as the document has them. -/
def Row.lay (R : Row) (xs : List UInt8) : Bool × Row := if R.pos + xs.length ≤ R.bs.length then (true, ⟨over R.bs R.pos xs, R.pos + xs.length⟩) else (false, R)
def Row.get (R : Row) (x : Int) : Int × Bool × Row := if isW x = true ∧ R.pos + x.toNat ≤ R.bs.length then (numOf ((R.bs.drop R.pos).take x.toNat), true, ⟨R.bs, R.pos + x.toNat⟩) else (0, false, R)
def Row.take (R : Row) (n : Int) : List UInt8 × Bool × Row := if 0 ≤ n ∧ R.pos + n ≤ R.bs.length then ((R.bs.drop R.pos).take n.toNat, true, ⟨R.bs, R.pos + n.toNat⟩) else ([], false, R)



theorem get_at (p b cap : Nat) (A : Option Addr) (R : Row) (x : Int) (w : World) (h : RowAt w p b cap A R) :
    Calls Try.prog 44 #[.pointer (some ⟨p, 0, none⟩), .int .i64 x] w fun e w' =>
      e = .returned (.tuple #[.int .i64 (R.get x).1, .bool (R.get x).2.1]) ∧ RowAt w' p b cap A (R.get x).2.2 ∧ Kept [p] w w' := by
  by_cases hx : isW x = true
  · have hx' : x = 1 ∨ x = 2 ∨ x = 4 := by simpa [isW, or_assoc] using hx
    by_cases hr : R.pos + x.toNat ≤ R.bs.length
    · have e : R.get x = (numOf ((R.bs.drop R.pos).take x.toNat), true, ⟨R.bs, R.pos + x.toNat⟩) := if_pos ⟨hx, hr⟩
      rw [e]
      exact get_ok p b cap A R x w h hx (by omega)
    · have e : R.get x = (0, false, R) := if_neg (fun h => hr h.2)
      rw [e]
      exact (get_short p b cap A R x w h hx (by omega)).mono fun e w' ⟨h1, k, h2⟩ => ⟨h1, by subst h2; exact h.drewN k, by subst h2; exact (Kept.refl _ w).drewN k⟩
  · have e : R.get x = (0, false, R) := if_neg (fun h => hx h.1)
    rw [e]
    exact (get_width p x w ((Bool.not_eq_true _).mp hx)).mono fun e w' ⟨h1, h2⟩ => ⟨h1, by subst h2; exact h, by subst h2; exact Kept.refl _ _⟩

end Go.Proofs.Ytbghkfjjmgmjmaa.row
