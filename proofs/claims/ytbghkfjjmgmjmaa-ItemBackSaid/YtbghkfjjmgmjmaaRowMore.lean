import Derived.Test.YtbghkfjjmgmjmaaRowRest
namespace Go.Proofs.Ytbghkfjjmgmjmaa.row
open Go.RowKit Go.Proofs.Ytbghkfjjmgmjmaa.mem

theorem new_at (n : Int) (w : World) (h0 : 0 ≤ n) (h1 : n ≤ 65536) :
    Calls Try.prog 23 #[.int .i64 n] w fun e w' => ∃ p b cap A, e = .returned (.pointer (some ⟨p, 0, none⟩)) ∧ w.heap.size ≤ p ∧ w.heap.size ≤ b ∧ b < w'.heap.size ∧ RowAt w' p b cap A ⟨List.replicate n.toNat 0, 0⟩ ∧ Kept [] w w' := by
  refine (new_ok n w h0 h1).mono fun e w' ⟨he, hw⟩ => ⟨w.heap.size + 1, w.heap.size, n.toNat, some ⟨w.heap.size, 0, none⟩, he, by omega, by omega, by subst hw; simp; omega, ?_, by subst hw; exact ((Kept.refl _ w).alloc _).alloc _⟩
  subst hw
  refine ⟨?_, fun _ => ⟨_, Blk.alloc (Blk.new _ _ _) _, by rw [size_madeCells], by simp, fun i x hx => ?_⟩, by simp, Nat.zero_le _, by simp; omega, .inl rfl⟩
  · have := Blk.new (w.alloc (.cells (madeCells #[.int .u8 0] n.toNat) 5)) 65 #[.slice (some ⟨w.heap.size, 0, none⟩) n.toNat n.toNat, .int .i64 0]
    simpa using this
  · rw [List.getElem?_replicate] at hx
    split at hx
    · rename_i hi
      injection hx with hx
      subst hx
      simp [madeCells, hi, Nat.mod_one]
      rfl
    · cases hx


/-- The number that bytes are, the least one first. -/
def numOf (l : List UInt8) : Int := l.foldr (fun x n => (x.toNat : Int) + 256 * n) 0

theorem numOf_nil : numOf [] = 0 := rfl
theorem numOf_bd (l : List UInt8) : 0 ≤ numOf l ∧ numOf l < 256 ^ l.length := by
  induction l with
  | nil => simp [numOf]
  | cons x l ih =>
    have hx := x.toNat_lt
    have e : numOf (x :: l) = (x.toNat : Int) + 256 * numOf l := rfl
    rw [e, List.length_cons, Int.pow_succ]
    omega
theorem numOf_snoc (l : List UInt8) (y : UInt8) : numOf (l ++ [y]) = numOf l + y.toNat * 256 ^ l.length := by
  induction l with
  | nil => simp [numOf]
  | cons x l ih =>
    have e : numOf (x :: (l ++ [y])) = (x.toNat : Int) + 256 * numOf (l ++ [y]) := rfl
    have e2 : numOf (x :: l) = (x.toNat : Int) + 256 * numOf l := rfl
    rw [List.cons_append, e, ih, e2, List.length_cons, Int.pow_succ, Int.mul_add]
    have : (256 : Int) * (y.toNat * 256 ^ l.length) = y.toNat * (256 ^ l.length * 256) := by
      rw [Int.mul_comm 256, Int.mul_assoc]
    omega
theorem ofInt_i64 (a : Nat) (ha : a < 9223372036854775808) : (BitVec.ofInt 64 (a : Int)).toNat = a := by
  rw [BitVec.ofInt_natCast, BitVec.toNat_ofNat]; exact Nat.mod_eq_of_lt (by omega)
theorem i64_or_nat (a b : Nat) (ha : a < 9223372036854775808) (hb : b < 9223372036854775808) : bits .or .i64 (a : Int) (b : Int) = ((a ||| b : Nat) : Int) := by
  have hx : a ||| b < 2 ^ 63 := Nat.or_lt_two_pow (by omega) (by omega)
  show IntKind.i64.wrap ((BitVec.ofInt 64 (a : Int) ||| BitVec.ofInt 64 (b : Int)).toNat : Int) = _
  rw [BitVec.toNat_or, ofInt_i64 a ha, ofInt_i64 b hb, IntKind.wrap_i64]
  omega
theorem i64_and_nat (a b : Nat) (ha : a < 9223372036854775808) (hb : b < 9223372036854775808) : bits .and .i64 (a : Int) (b : Int) = ((a &&& b : Nat) : Int) := by
  have hx : a &&& b < 2 ^ 63 := Nat.and_lt_two_pow _ (by omega)
  show IntKind.i64.wrap ((BitVec.ofInt 64 (a : Int) &&& BitVec.ofInt 64 (b : Int)).toNat : Int) = _
  rw [BitVec.toNat_and, ofInt_i64 a ha, ofInt_i64 b hb, IntKind.wrap_i64]
  omega
/-- A number below 2^i, or-ed with one that is shifted by i places: their sum. -/
theorem or_far (a y i : Nat) (ha : a < 2 ^ i) (h : a + y * 2 ^ i < 9223372036854775808) : bits .or .i64 (a : Int) ((y : Int) * (2 ^ i : Nat)) = (a : Int) + (y : Int) * (2 ^ i : Nat) := by
  have e : ((y : Int) * (2 ^ i : Nat)) = ((y * 2 ^ i : Nat) : Int) := by simp
  rw [e, i64_or_nat a _ (by omega) (by omega), Nat.or_comm, ← Nat.shiftLeft_eq, ← Nat.shiftLeft_add_eq_or_of_lt ha, Nat.shiftLeft_eq]
  omega

theorem clone_len (A : Option Addr) (c k : Nat) (bs : List UInt8) (w : World) (hk : bs.length = k) (hv : Vals w [] A (bs.map B)) (hA : A = none → c = 0) (hm : k ≤ 140737488355328) :
    Calls Try.prog 38 #[.slice A k c] w fun e w' => ∃ A' cap, e = .returned (.slice A' k cap) ∧ NewBytes w w' A' cap bs ∧ Kept [] w w' := by
  subst hk
  exact clone_any A c bs w hv hA hm

/-- What a cut of an array of bytes reads. -/
theorem vals_cut {w : World} {b cap pos n : Nat} {bs : List UInt8} {A : Option Addr} (h : 0 < n → A = some ⟨b, pos, none⟩ ∧ Arr w b cap bs) (_hn : pos + n ≤ bs.length) : Vals w [] A (((bs.drop pos).take n).map B) := by
  intro i v hv
  rw [List.getElem?_map] at hv
  obtain ⟨x, hx, rfl⟩ := Option.map_eq_some_iff.1 hv
  have hi : i < n := by
    have := (List.getElem?_eq_some_iff.1 hx).1
    rw [List.length_take] at this
    omega
  obtain ⟨rfl, ha⟩ := h (by omega)
  rw [List.getElem?_take_of_lt hi, List.getElem?_drop] at hx
  refine ⟨_, rfl, by simp, ?_⟩
  rw [add_mk]
  obtain ⟨cs, hb, _, _, hr⟩ := ha
  rw [hb.cell]
  exact hr _ _ hx



theorem get_width (p : Nat) (x : Int) (w : World) (hx : isW x = false) :
    Calls Try.prog 44 #[.pointer (some ⟨p, 0, none⟩), .int .i64 x] w fun e w' => e = .returned (.tuple #[.int .i64 0, .bool false]) ∧ w = w' := by
  have HX := hide hx
  clear hx
  go_enter Try.func44, Try.ntmps44
  go_wp2_with (go_at_call 35; refine (isWidth_no _ _ HX.out).mono ?_; rintro e w' ⟨rfl, rfl⟩)
  go_ret2
  exact ⟨rfl, rfl⟩

theorem get_short (p b cap : Nat) (A : Option Addr) (R : Row) (x : Int) (w : World) (h : RowAt w p b cap A R) (hx : isW x = true) (hr : R.bs.length < R.pos + x) :
    Calls Try.prog 44 #[.pointer (some ⟨p, 0, none⟩), .int .i64 x] w fun e w' => e = .returned (.tuple #[.int .i64 0, .bool false]) ∧ ∃ k, w' = w.drewN k := by
  have H := hide h
  have hlen := h.len_le
  have hpl := h.pos_le
  clear h
  have HX := hide hx
  clear hx
  go_enter Try.func44, Try.ntmps44
  go_wp2_with (first | (go_at_call 35; refine (isWidth_yes _ _ HX.out).mono ?_; rintro e w' ⟨rfl, rfl⟩) | (go_at_call 37; refine (next_no p A R.bs.length cap R.pos _ _ H.out.c0 H.out.c1 (by omega) (by omega) (by omega) (by omega)).mono ?_; rintro e w' ⟨rfl, k, rfl⟩))
  go_loop [8, 22] (fun n i => n = .int .i64 0 ∧ i = .int .i64 0) (fun _ _ => 0)
  case atStart => exact ⟨rfl, rfl⟩
  case round =>
    obtain ⟨rfl, rfl⟩ := hrel
    go_wp2
    go_ret2
    exact ⟨rfl, k, rfl⟩

theorem get_step {bs : List UInt8} {pos n j : Nat} {y : UInt8} {z : Int} {h : pos + j < bs.length} (hy : bs[pos + j] = y) (hz : numOf (((bs.drop pos).take n).take j) = z) {q : Int} (hq : q = y.toNat * (256 ^ j : Int)) (hj : j < n) (h4 : j < 4) :
    Value.int .i64 (bits .or .i64 z q) = .int .i64 (numOf (((bs.drop pos).take n).take (j + 1))) := by
  subst hq
  have hl : ((bs.drop pos).take n).length > j := by simp; omega
  have e : (((bs.drop pos).take n).take (j + 1)) = (((bs.drop pos).take n).take j) ++ [y] := by
    rw [List.take_succ_eq_append_getElem hl]
    simp [hy]
  have hb := numOf_bd (((bs.drop pos).take n).take j)
  have hlj : (((bs.drop pos).take n).take j).length = j := by rw [List.length_take]; omega
  rw [hlj, hz] at hb
  rw [e, numOf_snoc, hz, hlj]
  obtain ⟨a, rfl⟩ := Int.eq_ofNat_of_zero_le hb.1
  have hp : (256 : Int) ^ j = ((2 ^ (8 * j) : Nat) : Int) := by rw [Nat.pow_mul]; simp
  have hy := y.toNat_lt
  rw [hp] at hb ⊢
  have h2 : (2 : Nat) ^ (8 * j) ≤ 2 ^ 24 := Nat.pow_le_pow_right (by omega) (by omega)
  have h3 : y.toNat * 2 ^ (8 * j) ≤ 255 * 2 ^ 24 := Nat.mul_le_mul (by omega) h2
  rw [or_far a y.toNat (8 * j) (by omega) (by omega)]

set_option maxRecDepth 100000 in
theorem get_ok (p b cap : Nat) (A : Option Addr) (R : Row) (x : Int) (w : World) (h : RowAt w p b cap A R) (hx : isW x = true) (hr : R.pos + x ≤ R.bs.length) :
    Calls Try.prog 44 #[.pointer (some ⟨p, 0, none⟩), .int .i64 x] w fun e w' =>
      e = .returned (.tuple #[.int .i64 (numOf ((R.bs.drop R.pos).take x.toNat)), .bool true]) ∧ RowAt w' p b cap A ⟨R.bs, R.pos + x.toNat⟩ ∧ Kept [p] w w' := by
  have hlen := h.len_le
  have hpl := h.pos_le
  have H := hide h
  clear h
  have hx' : x = 1 ∨ x = 2 ∨ x = 4 := by simpa [isW, or_assoc] using hx
  have HX := hide hx
  clear hx
  obtain ⟨n, rfl⟩ := Int.eq_ofNat_of_zero_le (show 0 ≤ x by omega)
  rw [Int.toNat_natCast]
  have hne : R.bs ≠ [] := fun e => by have := congrArg List.length e; simp only [List.length_nil] at this; omega
  have HA := hide (H.out.2.1 hne)
  have HR := hide hr
  clear hr hne
  have hn4 : n ≤ 4 := by omega
  clear hx'
  go_enter Try.func44, Try.ntmps44
  go_wp2_with (first | (go_at_call 35; refine (isWidth_yes _ _ HX.out).mono ?_; rintro e w' ⟨rfl, rfl⟩) | (go_at_call 37; refine (next_ok p b A R.bs.length cap R.pos _ _ H.out.c0 H.out.c1 H.out.f1 (by omega) (by omega) (by omega) H.out.le_cap H.out.addr (by omega) (by have := HR.out; omega)).mono ?_; rintro e w' ⟨A', rfl, hA', hAn, k, rfl⟩; rw [Int.toNat_natCast, Int.toNat_natCast] at *))
  have H1 := hide ((H.out.drewN k).moved n (by have := HR.out; omega) (R.pos + n) (by omega))
  have HK : Hid (Kept [p] w ((w.drewN k).setCell ⟨p, 1, none⟩ (Value.int IntKind.i64 (↑R.pos + ↑n)))) := hide (((Kept.refl _ w).drewN k).set_ (.inl (by simp)) _ _)
  generalize (w.drewN k).setCell ⟨p, 1, none⟩ (Value.int IntKind.i64 (↑R.pos + ↑n)) = w1 at *
  have hn0 : 0 < n := by
    rcases Nat.eq_zero_or_pos n with h | h
    · have := HX.out; subst h; simp [isW] at this
    · exact h
  obtain rfl := hA' (by omega)
  clear hA'
  go_loop [8, 22] (fun v i => ∃ k : Nat, k ≤ n ∧ i = .int .i64 k ∧ v = .int .i64 (numOf (((R.bs.drop R.pos).take n).take k))) (fun _ i => n - (intOf i).toNat)
  case atStart => exact ⟨0, Nat.zero_le _, rfl, rfl⟩
  case round =>
    obtain ⟨j, hj, rfl, rfl⟩ := hrel
    by_cases hlt : j < n
    · have hc := (H1.out.2.1 (fun e => by have h0 := congrArg List.length e; have := HR.out; simp only [List.length_nil] at h0; omega)).cell (i := R.pos + j) (by have := HR.out; show R.pos + j < R.bs.length; omega)
      generalize hy : (R.bs[R.pos + j]'(by have := HR.out; omega)) = y at hc
      have HY := hide hy
      clear hy
      unfold B at hc
      have hj4 : j = 0 ∨ j = 1 ∨ j = 2 ∨ j = 3 := by omega
      generalize hz : numOf (((R.bs.drop R.pos).take n).take j) = z
      have HZ := hide hz
      clear hz
      rcases hj4 with rfl | rfl | rfl | rfl
      all_goals
        try rw [Nat.add_zero] at hc
        have hy256 : (y.toNat : Int) < 256 := by have := y.toNat_lt; omega
        go_wp2
        go_round
        case rel => exact ⟨_, hlt, by go_num, get_step HY.out HZ.out (by simp) (by omega) (by omega)⟩
        case measure => simp [intOf]; omega
    · obtain rfl : j = n := by omega
      go_wp2
      go_ret2
      rw [List.take_of_length_le (by simp; omega)]
      exact ⟨rfl, H1.out, HK.out⟩
end Go.Proofs.Ytbghkfjjmgmjmaa.row
