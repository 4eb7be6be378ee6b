import Derived.Test.YtbghkfjjmgmjmaaRefPut
namespace Go.Proofs.Ytbghkfjjmgmjmaa.ref
open Go.RowKit Go.Proofs.Ytbghkfjjmgmjmaa.mem Go.Proofs.Ytbghkfjjmgmjmaa.row

theorem rput_long (p b : Nat) (R : Row) (x : Nat) (L : Option Addr) (l : List Int) (c : Nat) (w : World) (h : RefAt w p b R) (hx : isW (x : Int) = true) (hm : l.length ≤ 140737488355328)
    (hr : R.bs.length < R.pos + x * l.length) :
    Calls Try.prog 27 #[.pointer (some ⟨p, 0, none⟩), .int .i64 x, .slice L l.length c] w fun e w' => e = .returned (.bool false) ∧ ∃ k, w' = w.drewN k := by
  have hlen := h.len_le
  have hpl := h.pos_le
  have hx' : (x : Int) = 1 ∨ (x : Int) = 2 ∨ (x : Int) = 4 := by simpa [isW, or_assoc] using hx
  have hx4 : x = 1 ∨ x = 2 ∨ x = 4 := by omega
  have hc0 := h.c0
  have hc1 := h.c1
  have HX := hide hx
  have g2 : IntKind.i64.wrap ((R.bs.length : Int) - (R.pos : Int)) = (R.bs.length : Int) - (R.pos : Int) := IntWalk.i64_in _ (by omega)
  have hmul : (l.length : Int) * (x : Int) = ((x * l.length : Nat) : Int) := by rw [Int.natCast_mul, Int.mul_comm]
  have hxm : x * l.length ≤ 4 * 140737488355328 := Nat.mul_le_mul (by omega) hm
  have g1 : IntKind.i64.wrap ((l.length : Int) * (x : Int)) = (l.length : Int) * (x : Int) := IntWalk.i64_in _ (by rw [hmul]; omega)
  have d2 : decide ((R.bs.length : Int) - (R.pos : Int) < (l.length : Int) * (x : Int)) = true := decide_eq_true (by rw [hmul]; omega)
  clear h hx hx' hx4 hmul hxm hr
  by_cases hb : R.bs.length < l.length
  · have d1 : decide (R.bs.length < l.length) = true := decide_eq_true hb
    go_enter Try.func27, Try.ntmps27
    go_wp2_with fail
    refine (most_yes _ _ HX.out).mono ?_
    rintro e w' ⟨m, rfl, ⟨hm0, _⟩, _, rfl⟩
    have d0 : decide (m < 0) = false := decide_eq_false (by omega)
    go_wp2
    go_quiet (fail)
    go_wp2
    go_ret
    exact ⟨rfl, _, rfl⟩
  · have d1 : decide (R.bs.length < l.length) = false := decide_eq_false hb
    go_enter Try.func27, Try.ntmps27
    go_wp2_with fail
    refine (most_yes _ _ HX.out).mono ?_
    rintro e w' ⟨m, rfl, ⟨hm0, _⟩, _, rfl⟩
    have d0 : decide (m < 0) = false := decide_eq_false (by omega)
    go_wp2
    go_quiet (fail)
    go_wp2
    go_ret
    exact ⟨rfl, _, rfl⟩

theorem rput_unfit (p b : Nat) (R : Row) (x : Nat) (L : Option Addr) (l : List Int) (c : Nat) (w : World) (h : RefAt w p b R) (hx : isW (x : Int) = true) (hl : Vals w [] L (l.map I)) (hf : ∃ n ∈ l, fitsW x n = false)
    (hr : R.pos + x * l.length ≤ R.bs.length) :
    Calls Try.prog 27 #[.pointer (some ⟨p, 0, none⟩), .int .i64 x, .slice L l.length c] w fun e w' => e = .returned (.bool false) ∧ ∃ k, w' = w.drewN k := by
  have hlen := h.len_le
  have hpl := h.pos_le
  have hx4 : 0 < x ∧ x ≤ 4 := by
    have hx' : (x : Int) = 1 ∨ (x : Int) = 2 ∨ (x : Int) = 4 := by simpa [isW, or_assoc] using hx
    omega
  obtain ⟨hx0, hx4⟩ := hx4
  have hll : l.length ≤ R.bs.length := by have := Nat.le_mul_of_pos_left l.length hx0; omega
  have hc0 := h.c0
  have hc1 := h.c1
  have HL := hide hl
  have HF := hide hf
  have HX := hide hx
  clear h hl hf hx
  have d1 : decide (R.bs.length < l.length) = false := decide_eq_false (by omega)
  have hmul : (l.length : Int) * (x : Int) = ((x * l.length : Nat) : Int) := by rw [Int.natCast_mul, Int.mul_comm]
  have g1 : IntKind.i64.wrap ((l.length : Int) * (x : Int)) = (l.length : Int) * (x : Int) := IntWalk.i64_in _ (by rw [hmul]; omega)
  have g2 : IntKind.i64.wrap ((R.bs.length : Int) - (R.pos : Int)) = (R.bs.length : Int) - (R.pos : Int) := IntWalk.i64_in _ (by omega)
  have d2 : decide ((R.bs.length : Int) - (R.pos : Int) < (l.length : Int) * (x : Int)) = false := decide_eq_false (by rw [hmul]; omega)
  clear hmul
  go_enter Try.func27, Try.ntmps27
  go_wp2_with fail
  refine (most_yes _ _ HX.out).mono ?_
  rintro e w' ⟨m, rfl, ⟨hm, hm2⟩, hfm, rfl⟩
  have HFM := hide hfm
  clear hfm hm2
  have d0 : decide (m < 0) = false := decide_eq_false (by omega)
  go_wp2
  go_quiet (fail)
  clear d0 d1 d2 g1 g2 hc0 hc1
  go_wp2
  go_loop [8] (fun i => ∃ k : Nat, k ≤ l.length ∧ i = .int .i64 k ∧ Hid (∀ j (h : j < l.length), j < k → fitsW x l[j] = true)) (fun i => l.length - (intOf i).toNat)
  case atStart => exact ⟨0, Nat.zero_le _, rfl, hide (fun _ _ h => absurd h (by omega))⟩
  case round =>
    obtain ⟨k, hk, rfl, hall⟩ := hrel
    by_cases hlt : k < l.length
    · obtain ⟨ad, rfl, hn, hc⟩ := HL.out k (I l[k]) (by simp [hlt])
      unfold I at hc
      by_cases hfk : fitsW x l[k] = true
      · have HK := hide hfk
        clear hfk
        go_wp2_with (go_at_call 22; refine (within_yes _ _ _ _ ((HFM.out _).1 HK.out)).mono ?_; rintro e w' ⟨rfl, rfl⟩)
        go_round
        case rel =>
          refine ⟨k + 1, by omega, by go_num, hide (fun j h hj => ?_)⟩
          rcases Nat.lt_or_ge j k with h1 | h1
          · exact hall.out j h h1
          · obtain rfl : j = k := by omega
            exact HK.out
        case measure => simp [intOf]; omega
      · have HK := hide hfk
        clear hfk
        go_wp2_with (go_at_call 22; refine (within_no _ _ _ _ (fun hh => HK.out ((HFM.out _).2 hh))).mono ?_; rintro e w' ⟨rfl, rfl⟩)
        go_ret
        exact ⟨rfl, _, rfl⟩
    · exfalso
      obtain ⟨n, hn, hnf⟩ := HF.out
      obtain ⟨j, hj, rfl⟩ := List.getElem_of_mem hn
      have := hall.out j hj (by omega)
      rw [this] at hnf
      cases hnf

theorem rput_at (p b : Nat) (R : Row) (x : Int) (L : Option Addr) (l : List Int) (n c : Nat) (w : World) (hn : l.length = n) (h : RefAt w p b R) (hl : Vals w [p, b] L (l.map I)) (hm : n ≤ 140737488355328) :
    Calls Try.prog 27 #[.pointer (some ⟨p, 0, none⟩), .int .i64 x, .slice L n c] w fun e w' =>
      e = .returned (.bool (R.put x l).1) ∧ RefAt w' p b (R.put x l).2 ∧ Kept [p, b] w w' := by
  subst hn
  by_cases hx : isW x = true
  · have hx' : x = 1 ∨ x = 2 ∨ x = 4 := by simpa [isW, or_assoc] using hx
    obtain ⟨x, rfl⟩ := Int.eq_ofNat_of_zero_le (show 0 ≤ x by omega)
    by_cases hr : R.pos + x * l.length ≤ R.bs.length
    · by_cases hf : ∀ n ∈ l, fitsW x n = true
      · have e : R.put x l = (true, ⟨over R.bs R.pos (bytesOf x l), R.pos + x * l.length⟩) := if_pos ⟨hx, hf, hr⟩
        rw [e]
        exact rput_ok p b R x L l c w h hx hl hf hr
      · have e : R.put x l = (false, R) := if_neg (fun h => hf h.2.1)
        rw [e]
        refine (rput_unfit p b R x L l c w h hx (hl.mono (by simp)) (by simpa using hf) hr).mono fun e w' ⟨h1, k, h2⟩ => ⟨h1, by subst h2; exact h.drewN k, by subst h2; exact (Kept.refl _ w).drewN k⟩
    · have e : R.put x l = (false, R) := if_neg (fun h => hr h.2.2)
      rw [e]
      refine (rput_long p b R x L l c w h hx hm (by omega)).mono fun e w' ⟨h1, k, h2⟩ => ⟨h1, by subst h2; exact h.drewN k, by subst h2; exact (Kept.refl _ w).drewN k⟩
  · have e : R.put x l = (false, R) := if_neg (fun h => hx h.1)
    rw [e]
    exact (rput_width p x L l.length c w ((Bool.not_eq_true _).mp hx)).mono fun e w' ⟨h1, k, h2⟩ => ⟨h1, by subst h2; exact h.drewN k, by subst h2; exact (Kept.refl _ w).drewN k⟩

theorem rnew_ok (n : Int) (w : World) (h0 : 0 ≤ n) (h1 : n ≤ 65536) :
    Calls Try.prog 26 #[.int .i64 n] w fun e w' => ∃ p b, e = .returned (.pointer (some ⟨p, 0, none⟩)) ∧ w.heap.size ≤ p ∧ w.heap.size ≤ b ∧ RefAt w' p b ⟨List.replicate n.toNat 0, 0⟩ ∧ Kept [] w w' := by
  obtain ⟨n, rfl⟩ := Int.eq_ofNat_of_zero_le h0
  rw [Int.toNat_natCast]
  have hmk := run_make_row' (P := Try.prog) 27 5 (.int .u8 0) 1 (by kernel_rfl) (by kernel_rfl) rfl .i64 .i64 n (by omega) (by omega)
  go_enter Try.func26, Try.ntmps26
  go_wp2_with (go_at_call 22; refine (within_yes _ _ _ _ ⟨by omega, by omega⟩).mono ?_; rintro e w' ⟨rfl, rfl⟩)
  go_ret
  refine ⟨_, _, rfl, by omega, Nat.le_refl w.heap.size, ⟨?_, ⟨_, Blk.alloc (Blk.new _ _ _) _, by rw [size_madeCells]; simp, by simp, fun i x hx => ?_⟩, Nat.zero_le _, by simp; omega⟩, ((Kept.refl _ w).alloc _).alloc _⟩
  · have := Blk.new (w.alloc (.cells (madeCells #[.int .u8 0] n) 5)) 59 #[.slice (some ⟨w.heap.size, 0, none⟩) n n, .int .i64 0]
    simpa using this
  · rw [List.getElem?_replicate] at hx
    split at hx
    · rename_i hi
      injection hx with hx
      subst hx
      exact made_B n i hi
    · cases hx

theorem rnew_no (n : Int) (w : World) (h : n < 0 ∨ 65536 < n) :
    Calls Try.prog 26 #[.int .i64 n] w fun e w' => e = .returned (.pointer none) ∧ w = w' := by
  have H := hide h
  clear h
  go_enter Try.func26, Try.ntmps26
  go_wp2_with (go_at_call 22; refine (within_no _ _ _ _ (by have := H.out; omega)).mono ?_; rintro e w' ⟨rfl, rfl⟩)
  go_ret
  exact ⟨rfl, rfl⟩

theorem rfrom_ok (A : Option Addr) (n c : Nat) (bs : List UInt8) (w : World) (hl : bs.length = n) (hnc : n ≤ c) (hv : Vals w [] A (bs.map B)) (hm : n ≤ 65536) :
    Calls Try.prog 32 #[.slice A n c] w fun e w' => ∃ p b, e = .returned (.pointer (some ⟨p, 0, none⟩)) ∧ w.heap.size ≤ p ∧ w.heap.size ≤ b ∧ RefAt w' p b ⟨bs, 0⟩ ∧ Kept [] w w' := by
  have HV := hide hv
  have HL := hide hl
  clear hv hl
  go_enter Try.func32, Try.ntmps32
  go_wp2_with fail
  refine (part_any A n c 0 n bs _ HV.out HL.out hnc (by omega) (by omega) (by omega) (by omega)).mono ?_
  rintro e w' ⟨g, rfl, hg, ha, hk⟩
  rw [show ((n : Int) - 0).toNat = n by omega] at *
  rw [show ((bs.drop (0 : Int).toNat).take n) = bs by rw [← HL.out]; simp] at ha
  go_wp2
  go_ret
  refine ⟨_, g, rfl, hk.size, hg, ⟨?_, ?_, Nat.zero_le _, by rw [HL.out]; exact hm⟩, hk.alloc _⟩
  · rw [HL.out]
    exact Blk.new _ _ _
  · rw [HL.out]
    exact ha.alloc _
end Go.Proofs.Ytbghkfjjmgmjmaa.ref
