import Derived.Test.YtbghkfjjmgmjmaaRefRow
import Derived.StillTailTactics
namespace Go.Proofs.Ytbghkfjjmgmjmaa.ref
open Go.RowKit Go.Proofs.Ytbghkfjjmgmjmaa.mem Go.Proofs.Ytbghkfjjmgmjmaa.row

/-- A row of the reference's lies at p, its bytes in b. -/
def RefAt (w : World) (p b : Nat) (R : Row) : Prop :=
  Blk w p 59 #[.slice (some ⟨b, 0, none⟩) R.bs.length R.bs.length, .int .i64 R.pos] ∧ Arr w b R.bs.length R.bs ∧ R.pos ≤ R.bs.length ∧ R.bs.length ≤ 65536

section
variable {w w' : World} {p b : Nat} {R : Row}
theorem RefAt.kept {S : List Nat} (h : RefAt w p b R) (k : Kept S w w') (hp : p ∉ S) (hb : b ∉ S) : RefAt w' p b R := by
  obtain ⟨h1, h2, h3⟩ := h
  exact ⟨k.blk h1 hp, h2.kept k hb, h3⟩
theorem RefAt.drewN (h : RefAt w p b R) (k : Nat) : RefAt (w.drewN k) p b R := h
theorem RefAt.drew (h : RefAt w p b R) : RefAt w.drew p b R := h
theorem RefAt.c0 (h : RefAt w p b R) : w.cell? ⟨p, 0, none⟩ = some (.slice (some ⟨b, 0, none⟩) R.bs.length R.bs.length) := h.1.cell 0
theorem RefAt.c1 (h : RefAt w p b R) : w.cell? ⟨p, 1, none⟩ = some (.int .i64 R.pos) := h.1.cell 1
theorem RefAt.f1 (h : RefAt w p b R) : w.frozen? ⟨p, 1, none⟩ = false := h.1.frozen 1
theorem RefAt.pos_le (h : RefAt w p b R) : R.pos ≤ R.bs.length := h.2.2.1
theorem RefAt.len_le (h : RefAt w p b R) : R.bs.length ≤ 65536 := h.2.2.2
theorem RefAt.ne_ (h : RefAt w p b R) : b ≠ p := h.2.1.ne_ h.1 (by decide)
theorem RefAt.lt (h : RefAt w p b R) : p < w.heap.size := h.1.lt
theorem RefAt.blt (h : RefAt w p b R) : b < w.heap.size := h.2.1.lt
theorem RefAt.vals {S : List Nat} (h : RefAt w p b R) (hb : b ∉ S) : Vals w S (some ⟨b, 0, none⟩) (R.bs.map B) := h.2.1.vals hb
/-- One byte is laid at the place, and the place moves on. -/
theorem RefAt.step (h : RefAt w p b R) (hlt : R.pos < R.bs.length) (x : UInt8) (q : Int) (hq : q = ((R.pos + 1 : Nat) : Int)) :
    RefAt ((w.setCell ⟨b, R.pos, none⟩ (B x)).setCell ⟨p, 1, none⟩ (.int .i64 q)) p b ⟨R.bs.set R.pos x, R.pos + 1⟩ := by
  have hne := h.ne_
  subst hq
  obtain ⟨h1, h2, h3, h4⟩ := h
  refine ⟨?_, ?_, by simp; omega, by simpa using h4⟩
  · simpa using (h1.far_ (Ne.symm hne) _ _).set_ 1 _
  · simpa using (h2.set_ x).far_ hne _ _
theorem RefAt.moved (h : RefAt w p b R) (n : Nat) (hn : R.pos + n ≤ R.bs.length) (q : Int) (hq : q = ((R.pos + n : Nat) : Int)) : RefAt (w.setCell ⟨p, 1, none⟩ (.int .i64 q)) p b ⟨R.bs, R.pos + n⟩ := by
  have hne := h.ne_
  subst hq
  obtain ⟨h1, h2, h3, h4⟩ := h
  exact ⟨h1.set_ 1 _, h2.far_ hne _ _, hn, h4⟩
end

/-- The row behind so many bytes. -/
def putSt (R : Row) (x : Nat) (l : List Int) (j : Nat) : Row := ⟨over R.bs R.pos ((bytesOf x l).take j), R.pos + j⟩

theorem putSt_len (R : Row) (x : Nat) (l : List Int) (j : Nat) (hj : j ≤ x * l.length) (hr : R.pos + j ≤ R.bs.length) : (putSt R x l j).bs.length = R.bs.length :=
  over_length _ _ _ (by rw [List.length_take, bytesOf_length]; omega)
theorem putSt_step (R : Row) (x : Nat) (l : List Int) (j : Nat) (hj : j < x * l.length) (hr : R.pos + j < R.bs.length) : (⟨(putSt R x l j).bs.set (R.pos + j) (row.byteOf x l j), R.pos + j + 1⟩ : Row) = putSt R x l (j + 1) := by
  unfold putSt
  have hl : ((bytesOf x l).take j).length = j := by rw [List.length_take, bytesOf_length]; omega
  rw [bytesOf_take x l j hj]
  simp only [Row.mk.injEq]
  refine ⟨?_, by omega⟩
  rw [← over_snoc _ _ _ _ (by rw [hl]; exact hr), hl]
theorem and255 (y : Int) (h0 : 0 ≤ y) (h1 : y < 9223372036854775808) : bits .and .i64 y 255 = y % 256 := by
  obtain ⟨n, rfl⟩ := Int.eq_ofNat_of_zero_le h0
  rw [show (255 : Int) = ((255 : Nat) : Int) from rfl, i64_and_nat _ _ (by omega) (by omega), show (255 : Nat) = 2 ^ 8 - 1 from rfl, Nat.and_two_pow_sub_one_eq_mod]
  simp

theorem most_yes (x : Int) (w : World) (hx : isW x = true) :
    Calls Try.prog 39 #[.int .i64 x] w fun e w' => ∃ m : Int, e = .returned (.int .i64 m) ∧ (0 ≤ m ∧ m ≤ 4294967295) ∧ (∀ n, fitsW x n = true ↔ 0 ≤ n ∧ n ≤ m) ∧ w = w' := by
  have hx' : x = 1 ∨ x = 2 ∨ x = 4 := by simpa [isW, or_assoc] using hx
  refine (most_any x w).mono fun e w' ⟨he, hw⟩ => ⟨_, he, ?_, ?_, hw⟩
  · rcases hx' with rfl | rfl | rfl <;> decide
  · intro n
    rcases hx' with rfl | rfl | rfl
    · simp [fitsW, mostOf]; omega
    · simp [fitsW, mostOf]; omega
    · simp [fitsW, mostOf]; omega
theorem most_no (x : Int) (w : World) (hx : isW x = false) :
    Calls Try.prog 39 #[.int .i64 x] w fun e w' => e = .returned (.int .i64 (-1)) ∧ w = w' := by
  refine (most_any x w).mono fun e w' ⟨he, hw⟩ => ⟨?_, hw⟩
  have h1 : x ≠ 1 := fun h => by subst h; cases hx
  have h2 : x ≠ 2 := fun h => by subst h; cases hx
  have h4 : x ≠ 4 := fun h => by subst h; cases hx
  rw [he]
  simp [mostOf, h1, h2, h4]

theorem rput_width (p : Nat) (x : Int) (L : Option Addr) (n c : Nat) (w : World) (hx : isW x = false) :
    Calls Try.prog 27 #[.pointer (some ⟨p, 0, none⟩), .int .i64 x, .slice L n c] w fun e w' => e = .returned (.bool false) ∧ ∃ k, w' = w.drewN k := by
  have HX := hide hx
  clear hx
  go_enter Try.func27, Try.ntmps27
  go_wp2_with (go_at_call 39; refine (most_no _ _ HX.out).mono ?_; rintro e w' ⟨rfl, rfl⟩)
  go_quiet (fail)
  go_wp2
  go_ret
  exact ⟨rfl, _, rfl⟩

theorem rput_ok (p b : Nat) (R : Row) (x : Nat) (L : Option Addr) (l : List Int) (c : Nat) (w : World) (h : RefAt w p b R) (hx : isW (x : Int) = true) (hl : Vals w [p, b] L (l.map I)) (hf : ∀ n ∈ l, fitsW x n = true)
    (hr : R.pos + x * l.length ≤ R.bs.length) :
    Calls Try.prog 27 #[.pointer (some ⟨p, 0, none⟩), .int .i64 x, .slice L l.length c] w fun e w' =>
      e = .returned (.bool true) ∧ RefAt w' p b ⟨over R.bs R.pos (bytesOf x l), R.pos + x * l.length⟩ ∧ Kept [p, b] w w' := by
  have hlen := h.len_le
  have hpl := h.pos_le
  have hx4 : 0 < x ∧ x ≤ 4 := by
    have hx' : (x : Int) = 1 ∨ (x : Int) = 2 ∨ (x : Int) = 4 := by simpa [isW, or_assoc] using hx
    omega
  obtain ⟨hx0, hx4⟩ := hx4
  have hll : l.length ≤ R.bs.length := by have := Nat.le_mul_of_pos_left l.length hx0; omega
  have hc0 := h.c0
  have hc1 := h.c1
  have H := hide h
  have HL := hide hl
  have HF := hide hf
  have HX := hide hx
  clear h hl hf hx
  have d1 : decide (R.bs.length < l.length) = false := decide_eq_false (by omega)
  have hmul : (l.length : Int) * (x : Int) = ((x * l.length : Nat) : Int) := by rw [Int.natCast_mul, Int.mul_comm]
  have g1 : IntKind.i64.wrap ((l.length : Int) * (x : Int)) = (l.length : Int) * (x : Int) := IntWalk.i64_in _ (by rw [hmul]; omega)
  have g2 : IntKind.i64.wrap ((R.bs.length : Int) - (R.pos : Int)) = (R.bs.length : Int) - (R.pos : Int) := IntWalk.i64_in _ (by omega)
  have d2 : decide ((R.bs.length : Int) - (R.pos : Int) < (l.length : Int) * (x : Int)) = false := decide_eq_false (by rw [hmul]; omega)
  have HM := hide hmul
  clear hmul
  go_enter Try.func27, Try.ntmps27
  go_wp2_with fail
  refine (most_yes _ _ HX.out).mono ?_
  rintro e w' ⟨m, rfl, ⟨hm, hm2⟩, hfm, rfl⟩
  have HM2 := hide hm2
  clear hm2
  have HFM := hide hfm
  clear hfm
  have d0 : decide (m < 0) = false := decide_eq_false (by omega)
  go_wp2
  go_quiet (fail)
  have H1 := hide (H.out.drewN nq)
  have K1 : Hid (Kept [p, b] w (w.drewN nq)) := hide ((Kept.refl _ w).drewN nq)
  generalize w.drewN nq = w1 at *
  clear d0 d1 d2 g1 g2 hc0 hc1
  go_wp2
  go_loop [8] (fun i => ∃ k : Nat, k ≤ l.length ∧ i = .int .i64 k) (fun i => l.length - (intOf i).toNat)
  case atStart => exact ⟨0, Nat.zero_le _, rfl⟩
  case round =>
    obtain ⟨k, hk, rfl⟩ := hrel
    by_cases hlt : k < l.length
    · obtain ⟨ad, rfl, hn, hc⟩ := (HL.out.kept K1.out (fun _ h => h)) k (I l[k]) (by simp [hlt])
      have hfk := hide ((HFM.out _).1 (HF.out l[k] (List.getElem_mem hlt)))
      unfold I at hc
      go_wp2_with (go_at_call 22; refine (within_yes _ _ _ _ hfk.out).mono ?_; rintro e w' ⟨rfl, rfl⟩)
      go_round
      case rel => exact ⟨k + 1, by omega, by go_num⟩
      case measure => simp [intOf]; omega
    · obtain rfl : k = l.length := by omega
      go_wp2
      clear HM
      have HR := hide hr
      clear hr
      go_loopw [9] (fun i wr => ∃ q : Nat, q ≤ l.length ∧ i = .int .i64 q ∧ RefAt wr p b (putSt R x l (x * q)) ∧ Kept [p, b] w wr) (fun i wr => l.length - (intOf i).toNat)
      case atStart => exact ⟨0, Nat.zero_le _, rfl, by simpa [putSt, over_nil] using H1.out, K1.out⟩
      case round =>
        obtain ⟨q, hq, rfl, hra, hka⟩ := hrel
        by_cases hlt : q < l.length
        · obtain ⟨ad, rfl, hn, hc⟩ := (HL.out.kept hka (fun _ h => h)) q (I (l.getD q 0)) (getI l q hlt)
          have hz0 : Hid (0 ≤ l.getD q 0 ∧ l.getD q 0 ≤ m) := hide ((HFM.out _).1 (HF.out _ (by rw [List.getD_eq_getElem?_getD, List.getElem?_eq_getElem hlt]; exact List.getElem_mem hlt)))
          obtain ⟨z, hz⟩ : ∃ z, z = l.getD q 0 := ⟨_, rfl⟩
          rw [← hz] at hc hz0
          unfold I at hc
          have Hz := hide hz
          clear hz
          have RA := hide hra
          have KA := hide hka
          clear hra hka
          go_wp2
          go_loopw [10, 11] (fun v k wr => ∃ r : Nat, r ≤ x ∧ k = .int .i64 r ∧ v = .int .i64 (z / 256 ^ r) ∧ RefAt wr p b (putSt R x l (x * q + r)) ∧ Kept [p, b] w wr) (fun v k wr => x - (intOf k).toNat)
          case atStart => exact ⟨0, Nat.zero_le _, rfl, by simp, by simpa using RA.out, KA.out⟩
          case round =>
            obtain ⟨r, hrx, rfl, rfl, hrb, hkb⟩ := hrel
            by_cases hlr : r < x
            · have hd0 : (0 : Int) ≤ z / 256 ^ r := Int.ediv_nonneg hz0.out.1 (Int.pow_nonneg (by decide))
              have hd1 : z / 256 ^ r ≤ m := Int.le_trans (Int.ediv_le_self _ hz0.out.1) hz0.out.2
              have hnext : Hid (z / 256 ^ r / 256 = z / 256 ^ (r + 1)) := hide (by rw [Int.pow_succ, Int.ediv_ediv_of_nonneg (Int.pow_nonneg (by decide))])
              obtain ⟨y, hy⟩ : ∃ y, y = z / 256 ^ r := ⟨_, rfl⟩
              have HY := hide hy
              rw [← hy] at hd0 hd1 hnext ⊢
              clear hy
              have hJ : x * q + r < x * l.length := by
                have h1 : x * q + x ≤ x * l.length := by rw [← Nat.mul_succ]; exact Nat.mul_le_mul_left x hlt
                omega
              have hbyte : Hid (Value.int .u8 (y % 256) = B (row.byteOf x l (x * q + r))) := hide (row.byteOf_val x l (x * q + r) z y (by rw [Nat.mul_add_div hx0, Nat.div_eq_of_lt hlr, Nat.add_zero]; exact Hz.out) (by rw [Nat.mul_add_mod, Nat.mod_eq_of_lt hlr]; exact HY.out))
              have hnj : Hid (x * q + r + 1 = x * q + (r + 1)) := hide (by omega)
              generalize hJJ : x * q + r = J at *
              have HJJ := hide hJJ
              clear hJJ
              have hpj : R.pos + J < R.bs.length := by have := HR.out; omega
              have hsl := putSt_len R x l J (by omega) (by omega)
              have hc0 : wr.cell? ⟨p, 0, none⟩ = some (.slice (some ⟨b, 0, none⟩) R.bs.length R.bs.length) := by have := hrb.c0; rwa [hsl] at this
              have hc1 : wr.cell? ⟨p, 1, none⟩ = some (.int .i64 ((R.pos : Int) + J)) := hrb.c1
              have hf1 := hrb.f1
              obtain ⟨v0, hv0⟩ := hrb.2.1.any (i := R.pos + J) (by rw [hsl]; exact hpj)
              have hvf := hrb.2.1.frozen (R.pos + J)
              have hne := hrb.ne_
              have hc1s : ∀ v, (wr.setCell ⟨b, R.pos + J, none⟩ v).cell? ⟨p, 1, none⟩ = some (.int .i64 ((R.pos : Int) + J)) := fun v => by rw [World.cell?_setCell_other _ _ _ _ (by intro e; injection e with e; exact hne e)]; exact hc1
              have hband : bits .and .i64 y 255 = y % 256 := and255 y hd0 (by have := HM2.out; omega)
              have HRB := hide hrb
              have HSL := hide hsl
              have HNE := hide hne
              clear hrb hsl hne
              have g0 : (0 : Int) ≤ (R.pos : Int) + J := by omega
              have g1 : ((R.pos : Int) + J).toNat = R.pos + J := by omega
              have g2 : (R.pos : Int) + J < R.bs.length := by omega
              go_wp2
              go_still_tail 12, (by kernel_rfl)
              change wpList _ _ _ _ _ (World.drew wr)
              go_wp2
              go_roundw
              case rel =>
                rw [hbyte.out]
                refine ⟨r + 1, by omega, by go_num, congrArg (fun q => Value.int .i64 q) hnext.out, ?_, ((hkb.set_ (.inl (by simp)) _ _).set_ (.inl (by simp)) _ _).drew⟩
                have := HRB.out.step (by rw [HSL.out]; exact hpj) (row.byteOf x l J) ((R.pos : Int) + J + 1) (by simp [putSt])
                rw [← hnj.out, ← putSt_step R x l J hJ hpj]
                exact this.drew
              case measure => simp [intOf]; omega
            · obtain rfl : r = x := by omega
              rw [← Nat.mul_succ] at hrb
              go_wp2
              go_roundw
              case rel => exact ⟨q + 1, by omega, by go_num, hrb, hkb⟩
              case measure => simp [intOf]; omega
        · obtain rfl : q = l.length := by omega
          go_wp2
          go_ret
          refine ⟨rfl, ?_, hka⟩
          have e : putSt R x l (x * l.length) = ⟨over R.bs R.pos (bytesOf x l), R.pos + x * l.length⟩ := by
            unfold putSt
            rw [List.take_of_length_le (by rw [bytesOf_length]; omega)]
          rwa [e] at hra
end Go.Proofs.Ytbghkfjjmgmjmaa.ref
