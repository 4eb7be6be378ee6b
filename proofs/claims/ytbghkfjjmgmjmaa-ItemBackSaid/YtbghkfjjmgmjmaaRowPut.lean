import Derived.Test.YtbghkfjjmgmjmaaRowSmall
import Derived.StillTailTactics
import Derived.IntWalk
namespace Go.Proofs.Ytbghkfjjmgmjmaa.row
open Go.RowKit Go.Proofs.Ytbghkfjjmgmjmaa.mem

/-- What a row is: its bytes, and the place. -/
structure Row where
  bs : List UInt8
  pos : Nat

theorem Row.same {a b : Row} (h : a.bs = b.bs ∧ a.pos = b.pos) : a = b := by
  cases a
  cases b
  simp only at h
  rw [h.1, h.2]
instance : DecidableEq Row := fun a b => decidable_of_iff (a.bs = b.bs ∧ a.pos = b.pos) ⟨Row.same, fun h => by subst h; exact ⟨rfl, rfl⟩⟩

/-- A row lies at p, its bytes in b. -/
def RowAt (w : World) (p b cap : Nat) (A : Option Addr) (R : Row) : Prop :=
  Blk w p 65 #[.slice A R.bs.length cap, .int .i64 R.pos] ∧ (R.bs ≠ [] → Arr w b cap R.bs) ∧ R.bs.length ≤ cap ∧ R.pos ≤ R.bs.length ∧ R.bs.length ≤ 65536 ∧ (A = some ⟨b, 0, none⟩ ∨ A = none ∧ cap = 0)

/-- Byte i of numbers of that width, one behind the other. -/
def byteOf (x : Nat) (l : List Int) (i : Nat) : UInt8 := UInt8.ofNat ((l.getD (i / x) 0 / 256 ^ (i % x)) % 256).toNat
def bytesOf (x : Nat) (l : List Int) : List UInt8 := (List.range (x * l.length)).map (byteOf x l)

theorem byteOf_val (x : Nat) (l : List Int) (i : Nat) (z q : Int) (hz : z = l.getD (i / x) 0) (hq : q = z / 256 ^ (i % x)) : Value.int .u8 (q % 256) = B (byteOf x l i) := by
  have h : q % 256 = (((byteOf x l i).toNat : Nat) : Int) := by
    unfold byteOf
    rw [← hz, ← hq, UInt8.toNat_ofNat']
    omega
  rw [h]
  rfl
theorem bytesOf_take (x : Nat) (l : List Int) (j : Nat) (hj : j < x * l.length) : (bytesOf x l).take (j + 1) = (bytesOf x l).take j ++ [byteOf x l j] := by
  rw [List.take_succ_eq_append_getElem (by simpa [bytesOf] using hj)]
  simp [bytesOf]
theorem getI (l : List Int) (i : Nat) (h : i < l.length) : (l.map I)[i]? = some (I (l.getD i 0)) := by simp [h]
theorem bytesOf_length (x : Nat) (l : List Int) : (bytesOf x l).length = x * l.length := by simp [bytesOf]

set_option maxHeartbeats 1000000 in
theorem put_ok1 (p b cap : Nat) (A : Option Addr) (R : Row) (L : Option Addr) (l : List Int) (c : Nat) (w : World) (h : RowAt w p b cap A R) (hl : Vals w [p, b] L (l.map I)) (hf : ∀ n ∈ l, fitsW 1 n = true)
    (hr : R.pos + l.length ≤ R.bs.length) :
    Calls Try.prog 24 #[.pointer (some ⟨p, 0, none⟩), .int .i64 1, .slice L l.length c] w fun e w' =>
      e = .returned (.bool true) ∧ RowAt w' p b cap A ⟨over R.bs R.pos (bytesOf 1 l), R.pos + l.length⟩ ∧ Kept [p, b] w w' := by
  obtain ⟨hb, ha, hap, hp, hz, hA⟩ := h
  have hpb : R.bs ≠ [] → b ≠ p := fun hn => (ha hn).ne_ hb (by decide)
  have hlen : l.length ≤ 65536 := by omega
  have HP := hide hpb
  clear hpb
  have HA0 := hide ha
  clear ha
  have hc0 : w.cell? ⟨p, 0, none⟩ = some (.slice A R.bs.length cap) := hb.cell 0
  have hc1 : w.cell? ⟨p, 1, none⟩ = some (.int .i64 R.pos) := hb.cell 1
  have hcf := hb.frozen 1
  go_enter Try.func24, Try.ntmps24
  go_wp2_with (go_at_call 35; refine (isWidth_yes _ _ rfl).mono ?_; rintro e w' ⟨rfl, rfl⟩)
  go_loop [17, 8] (fun i u => ∃ k : Nat, k ≤ l.length ∧ i = .int .i64 k) (fun i u => l.length - (intOf i).toNat)
  case atStart => exact ⟨0, Nat.zero_le _, rfl⟩
  case round =>
    obtain ⟨k, hk, rfl⟩ := hrel
    by_cases hlt : k < l.length
    · obtain ⟨ad, rfl, hn, hc⟩ := hl k (I l[k]) (by simp [hlt])
      have hfk := hide (hf l[k] (List.getElem_mem hlt))
      unfold I at hc
      go_wp2_with (go_at_call 36; refine (holds_yes _ _ _ rfl hfk.out).mono ?_; rintro e w' ⟨rfl, rfl⟩)
      go_round
      case rel => exact ⟨k + 1, by omega, by go_num⟩
      case measure => simp [intOf]; omega
    · obtain rfl : k = l.length := by omega
      go_wp2_with (go_at_call 37; refine (next_ok p b A R.bs.length cap R.pos _ _ hc0 hc1 hcf (by omega) (by omega) (by omega) (by omega) hA (by omega) (by omega)).mono ?_; rintro e w' ⟨A', rfl, hA', hAn, k, rfl⟩; rw [Int.toNat_natCast] at *)
      generalize hw1 : (w.drewN k).setCell ⟨p, 1, none⟩ (Value.int IntKind.i64 (↑R.pos + ↑l.length)) = w1
      have HK1 : Hid (Kept [p, b] w w1) := by subst hw1; exact ((Kept.refl _ w).drewN k).setCell (.inl (by simp)) _
      have HB1 : Hid (Blk w1 p 65 #[.slice A R.bs.length cap, .int .i64 (R.pos + l.length)]) := by subst hw1; exact ((hb.drewN k).set_ 1 _)
      have HA1 : Hid (R.bs ≠ [] → Arr w1 b cap R.bs) := by subst hw1; exact fun hn => ((HA0.out hn).drewN k).far (HP.out hn) _
      clear hw1 hc0 hc1 hcf hb HA0
      have HL := hide hl
      clear hl
      go_loopw [37] (fun i wr => ∃ j : Nat, j ≤ l.length ∧ i = .int .i64 j ∧ Kept [p, b] w wr ∧ Blk wr p 65 #[.slice A R.bs.length cap, .int .i64 (R.pos + l.length)] ∧ (R.bs ≠ [] → Arr wr b cap (over R.bs R.pos ((bytesOf 1 l).take j)))) (fun i wr => l.length - (intOf i).toNat)
      case atStart => exact ⟨0, Nat.zero_le _, rfl, HK1.out, HB1.out, fun hn => by simpa [over_nil] using HA1.out hn⟩
      case round =>
        obtain ⟨j, hj, rfl, hk, hb, ha⟩ := hrel
        by_cases hlt : j < l.length
        · have hjl : j < l.length := by omega
          obtain ⟨ad, rfl, hn, hc⟩ := (HL.out.kept hk (fun _ h => h)) (j) (I (l.getD (j) 0)) (getI _ _ hjl)
          obtain rfl := hA' (by omega)
          have Hne : Hid (R.bs ≠ []) := hide (fun e => by have h0 := congrArg List.length e; simp only [List.length_nil] at h0; omega)
          replace ha := ha Hne.out
          obtain ⟨z, hz⟩ : ∃ z, z = l.getD (j) 0 := ⟨_, rfl⟩
          rw [← hz] at hc
          unfold I at hc
          have Hz := hide hz
          clear hz
          obtain ⟨v0, hv0⟩ := ha.any (i := R.pos + j) (by omega)
          have hvf := ha.frozen (R.pos + j)
          have HA := hide ha
          have HB := hide hb
          clear ha hb
          have g1 : IntKind.i64.wrap ((j : Int)) = (j : Int) := IntWalk.i64_in _ (by omega)
          have hw0 : IntKind.i64.wrap 0 = 0 := by decide
          have hw8 : IntKind.i64.wrap 8 = 8 := by decide
          obtain hr := (show (j : Int).tmod 1 = 0 by rw [Int.tmod_eq_emod_of_nonneg (by omega)]; omega)
          all_goals
            go_wp2
            go_still_tail 15, (by kernel_rfl)
            change wpList _ _ _ _ _ (World.drew wr)
            go_wp2
            go_roundw
            case rel =>
              have HR := hide hr
              clear hr
              refine ⟨j + 1, by omega, by go_num, (hk.set_ (.inl (by simp)) _ _).drew, (HB.out.far_ (Ne.symm (HP.out Hne.out)) _ _).drew, fun _ => ?_⟩
              rw [bytesOf_take 1 l j (by omega), ← over_snoc _ _ _ _ (by simp [bytesOf_length]; omega), show R.pos + ((bytesOf 1 l).take j).length = R.pos + j by simp [bytesOf_length]; omega]
              have e := HR.out
              rw [byteOf_val 1 l j z _ (by rw [Nat.div_one]; exact Hz.out) (by rw [show j % 1 = ((j : Int).tmod 1).toNat by rw [Int.tmod_eq_emod_of_nonneg (by omega)]; omega, e]; simp)]
              exact (HA.out.set_ _).drew
            case measure => simp [intOf]; omega
        · obtain rfl : j = l.length := by omega
          go_wp2
          go_ret
          rw [List.take_of_length_le (by rw [bytesOf_length]; omega)] at ha
          have hol : (over R.bs R.pos (bytesOf 1 l)).length = R.bs.length := over_length _ _ _ (by rw [bytesOf_length]; omega)
          refine ⟨rfl, ⟨?_, fun hn => ha (fun e => hn (List.eq_nil_of_length_eq_zero (by rw [hol, e]; rfl))), ?_, ?_, ?_, hA⟩, hk⟩
          · show Blk _ _ _ #[.slice A (over R.bs R.pos (bytesOf 1 l)).length cap, .int .i64 ((R.pos + l.length : Nat) : Int)]
            rw [hol, show ((R.pos + l.length : Nat) : Int) = (R.pos : Int) + (l.length : Int) by omega]
            exact hb
          · show (over R.bs R.pos (bytesOf _ l)).length ≤ cap
            omega
          · show R.pos + l.length ≤ (over R.bs R.pos (bytesOf 1 l)).length
            omega
          · show (over R.bs R.pos (bytesOf 1 l)).length ≤ 65536
            omega
set_option maxHeartbeats 1000000 in
theorem put_ok2 (p b cap : Nat) (A : Option Addr) (R : Row) (L : Option Addr) (l : List Int) (c : Nat) (w : World) (h : RowAt w p b cap A R) (hl : Vals w [p, b] L (l.map I)) (hf : ∀ n ∈ l, fitsW 2 n = true)
    (hr : R.pos + 2 * l.length ≤ R.bs.length) :
    Calls Try.prog 24 #[.pointer (some ⟨p, 0, none⟩), .int .i64 2, .slice L l.length c] w fun e w' =>
      e = .returned (.bool true) ∧ RowAt w' p b cap A ⟨over R.bs R.pos (bytesOf 2 l), R.pos + 2 * l.length⟩ ∧ Kept [p, b] w w' := by
  obtain ⟨hb, ha, hap, hp, hz, hA⟩ := h
  have hpb : R.bs ≠ [] → b ≠ p := fun hn => (ha hn).ne_ hb (by decide)
  have hlen : l.length ≤ 65536 := by omega
  have HP := hide hpb
  clear hpb
  have HA0 := hide ha
  clear ha
  have hc0 : w.cell? ⟨p, 0, none⟩ = some (.slice A R.bs.length cap) := hb.cell 0
  have hc1 : w.cell? ⟨p, 1, none⟩ = some (.int .i64 R.pos) := hb.cell 1
  have hcf := hb.frozen 1
  go_enter Try.func24, Try.ntmps24
  go_wp2_with (go_at_call 35; refine (isWidth_yes _ _ rfl).mono ?_; rintro e w' ⟨rfl, rfl⟩)
  go_loop [17, 8] (fun i u => ∃ k : Nat, k ≤ l.length ∧ i = .int .i64 k) (fun i u => l.length - (intOf i).toNat)
  case atStart => exact ⟨0, Nat.zero_le _, rfl⟩
  case round =>
    obtain ⟨k, hk, rfl⟩ := hrel
    by_cases hlt : k < l.length
    · obtain ⟨ad, rfl, hn, hc⟩ := hl k (I l[k]) (by simp [hlt])
      have hfk := hide (hf l[k] (List.getElem_mem hlt))
      unfold I at hc
      go_wp2_with (go_at_call 36; refine (holds_yes _ _ _ rfl hfk.out).mono ?_; rintro e w' ⟨rfl, rfl⟩)
      go_round
      case rel => exact ⟨k + 1, by omega, by go_num⟩
      case measure => simp [intOf]; omega
    · obtain rfl : k = l.length := by omega
      go_wp2_with (go_at_call 37; refine (next_ok p b A R.bs.length cap R.pos _ _ hc0 hc1 hcf (by omega) (by omega) (by omega) (by omega) hA (by omega) (by omega)).mono ?_; rintro e w' ⟨A', rfl, hA', hAn, k, rfl⟩; rw [Int.toNat_natCast] at *; rw [show (2 * (l.length : Int)).toNat = 2 * l.length by omega])
      generalize hw1 : (w.drewN k).setCell ⟨p, 1, none⟩ (Value.int IntKind.i64 (↑R.pos + 2 * ↑l.length)) = w1
      have HK1 : Hid (Kept [p, b] w w1) := by subst hw1; exact ((Kept.refl _ w).drewN k).setCell (.inl (by simp)) _
      have HB1 : Hid (Blk w1 p 65 #[.slice A R.bs.length cap, .int .i64 (R.pos + 2 * l.length)]) := by subst hw1; exact ((hb.drewN k).set_ 1 _)
      have HA1 : Hid (R.bs ≠ [] → Arr w1 b cap R.bs) := by subst hw1; exact fun hn => ((HA0.out hn).drewN k).far (HP.out hn) _
      clear hw1 hc0 hc1 hcf hb HA0
      have HL := hide hl
      clear hl
      go_loopw [37] (fun i wr => ∃ j : Nat, j ≤ 2 * l.length ∧ i = .int .i64 j ∧ Kept [p, b] w wr ∧ Blk wr p 65 #[.slice A R.bs.length cap, .int .i64 (R.pos + 2 * l.length)] ∧ (R.bs ≠ [] → Arr wr b cap (over R.bs R.pos ((bytesOf 2 l).take j)))) (fun i wr => 2 * l.length - (intOf i).toNat)
      case atStart => exact ⟨0, Nat.zero_le _, rfl, HK1.out, HB1.out, fun hn => by simpa [over_nil] using HA1.out hn⟩
      case round =>
        obtain ⟨j, hj, rfl, hk, hb, ha⟩ := hrel
        by_cases hlt : j < 2 * l.length
        · have hjl : j / 2 < l.length := by omega
          obtain ⟨ad, rfl, hn, hc⟩ := (HL.out.kept hk (fun _ h => h)) (j / 2) (I (l.getD (j / 2) 0)) (getI _ _ hjl)
          obtain rfl := hA' (by omega)
          have Hne : Hid (R.bs ≠ []) := hide (fun e => by have h0 := congrArg List.length e; simp only [List.length_nil] at h0; omega)
          replace ha := ha Hne.out
          obtain ⟨z, hz⟩ : ∃ z, z = l.getD (j / 2) 0 := ⟨_, rfl⟩
          rw [← hz] at hc
          unfold I at hc
          have Hz := hide hz
          clear hz
          obtain ⟨v0, hv0⟩ := ha.any (i := R.pos + j) (by omega)
          have hvf := ha.frozen (R.pos + j)
          have HA := hide ha
          have HB := hide hb
          clear ha hb
          have g1 : IntKind.i64.wrap ((j : Int) / 2) = (j : Int) / 2 := IntWalk.i64_in _ (by omega)
          have g2 : (0 : Int) ≤ (j : Int) / 2 := by omega
          have g3 : (j : Int) / 2 < l.length := by omega
          have g4 : ((j : Int) / 2).toNat = j / 2 := by omega
          have hw0 : IntKind.i64.wrap 0 = 0 := by decide
          have hw8 : IntKind.i64.wrap 8 = 8 := by decide
          rcases (show (j : Int).tmod 2 = 0 ∨ (j : Int).tmod 2 = 1 by rw [Int.tmod_eq_emod_of_nonneg (by omega)]; omega) with hr | hr
          all_goals
            go_wp2
            go_still_tail 15, (by kernel_rfl)
            change wpList _ _ _ _ _ (World.drew wr)
            go_wp2
            go_roundw
            case rel =>
              have HR := hide hr
              clear hr
              refine ⟨j + 1, by omega, by go_num, (hk.set_ (.inl (by simp)) _ _).drew, (HB.out.far_ (Ne.symm (HP.out Hne.out)) _ _).drew, fun _ => ?_⟩
              rw [bytesOf_take 2 l j (by omega), ← over_snoc _ _ _ _ (by simp [bytesOf_length]; omega), show R.pos + ((bytesOf 2 l).take j).length = R.pos + j by simp [bytesOf_length]; omega]
              have e := HR.out
              rw [byteOf_val 2 l j z _ Hz.out (by rw [show j % 2 = ((j : Int).tmod 2).toNat by rw [Int.tmod_eq_emod_of_nonneg (by omega)]; omega, e]; simp)]
              exact (HA.out.set_ _).drew
            case measure => simp [intOf]; omega
        · obtain rfl : j = 2 * l.length := by omega
          go_wp2
          go_ret
          rw [List.take_of_length_le (by rw [bytesOf_length]; omega)] at ha
          have hol : (over R.bs R.pos (bytesOf 2 l)).length = R.bs.length := over_length _ _ _ (by rw [bytesOf_length]; omega)
          refine ⟨rfl, ⟨?_, fun hn => ha (fun e => hn (List.eq_nil_of_length_eq_zero (by rw [hol, e]; rfl))), ?_, ?_, ?_, hA⟩, hk⟩
          · show Blk _ _ _ #[.slice A (over R.bs R.pos (bytesOf 2 l)).length cap, .int .i64 ((R.pos + 2 * l.length : Nat) : Int)]
            rw [hol, show ((R.pos + 2 * l.length : Nat) : Int) = (R.pos : Int) + 2 * (l.length : Int) by omega]
            exact hb
          · show (over R.bs R.pos (bytesOf _ l)).length ≤ cap
            omega
          · show R.pos + 2 * l.length ≤ (over R.bs R.pos (bytesOf 2 l)).length
            omega
          · show (over R.bs R.pos (bytesOf 2 l)).length ≤ 65536
            omega
set_option maxHeartbeats 1000000 in
theorem put_ok4 (p b cap : Nat) (A : Option Addr) (R : Row) (L : Option Addr) (l : List Int) (c : Nat) (w : World) (h : RowAt w p b cap A R) (hl : Vals w [p, b] L (l.map I)) (hf : ∀ n ∈ l, fitsW 4 n = true)
    (hr : R.pos + 4 * l.length ≤ R.bs.length) :
    Calls Try.prog 24 #[.pointer (some ⟨p, 0, none⟩), .int .i64 4, .slice L l.length c] w fun e w' =>
      e = .returned (.bool true) ∧ RowAt w' p b cap A ⟨over R.bs R.pos (bytesOf 4 l), R.pos + 4 * l.length⟩ ∧ Kept [p, b] w w' := by
  obtain ⟨hb, ha, hap, hp, hz, hA⟩ := h
  have hpb : R.bs ≠ [] → b ≠ p := fun hn => (ha hn).ne_ hb (by decide)
  have hlen : l.length ≤ 65536 := by omega
  have HP := hide hpb
  clear hpb
  have HA0 := hide ha
  clear ha
  have hc0 : w.cell? ⟨p, 0, none⟩ = some (.slice A R.bs.length cap) := hb.cell 0
  have hc1 : w.cell? ⟨p, 1, none⟩ = some (.int .i64 R.pos) := hb.cell 1
  have hcf := hb.frozen 1
  go_enter Try.func24, Try.ntmps24
  go_wp2_with (go_at_call 35; refine (isWidth_yes _ _ rfl).mono ?_; rintro e w' ⟨rfl, rfl⟩)
  go_loop [17, 8] (fun i u => ∃ k : Nat, k ≤ l.length ∧ i = .int .i64 k) (fun i u => l.length - (intOf i).toNat)
  case atStart => exact ⟨0, Nat.zero_le _, rfl⟩
  case round =>
    obtain ⟨k, hk, rfl⟩ := hrel
    by_cases hlt : k < l.length
    · obtain ⟨ad, rfl, hn, hc⟩ := hl k (I l[k]) (by simp [hlt])
      have hfk := hide (hf l[k] (List.getElem_mem hlt))
      unfold I at hc
      go_wp2_with (go_at_call 36; refine (holds_yes _ _ _ rfl hfk.out).mono ?_; rintro e w' ⟨rfl, rfl⟩)
      go_round
      case rel => exact ⟨k + 1, by omega, by go_num⟩
      case measure => simp [intOf]; omega
    · obtain rfl : k = l.length := by omega
      go_wp2_with (go_at_call 37; refine (next_ok p b A R.bs.length cap R.pos _ _ hc0 hc1 hcf (by omega) (by omega) (by omega) (by omega) hA (by omega) (by omega)).mono ?_; rintro e w' ⟨A', rfl, hA', hAn, k, rfl⟩; rw [Int.toNat_natCast] at *; rw [show (4 * (l.length : Int)).toNat = 4 * l.length by omega])
      generalize hw1 : (w.drewN k).setCell ⟨p, 1, none⟩ (Value.int IntKind.i64 (↑R.pos + 4 * ↑l.length)) = w1
      have HK1 : Hid (Kept [p, b] w w1) := by subst hw1; exact ((Kept.refl _ w).drewN k).setCell (.inl (by simp)) _
      have HB1 : Hid (Blk w1 p 65 #[.slice A R.bs.length cap, .int .i64 (R.pos + 4 * l.length)]) := by subst hw1; exact ((hb.drewN k).set_ 1 _)
      have HA1 : Hid (R.bs ≠ [] → Arr w1 b cap R.bs) := by subst hw1; exact fun hn => ((HA0.out hn).drewN k).far (HP.out hn) _
      clear hw1 hc0 hc1 hcf hb HA0
      have HL := hide hl
      clear hl
      go_loopw [37] (fun i wr => ∃ j : Nat, j ≤ 4 * l.length ∧ i = .int .i64 j ∧ Kept [p, b] w wr ∧ Blk wr p 65 #[.slice A R.bs.length cap, .int .i64 (R.pos + 4 * l.length)] ∧ (R.bs ≠ [] → Arr wr b cap (over R.bs R.pos ((bytesOf 4 l).take j)))) (fun i wr => 4 * l.length - (intOf i).toNat)
      case atStart => exact ⟨0, Nat.zero_le _, rfl, HK1.out, HB1.out, fun hn => by simpa [over_nil] using HA1.out hn⟩
      case round =>
        obtain ⟨j, hj, rfl, hk, hb, ha⟩ := hrel
        by_cases hlt : j < 4 * l.length
        · have hjl : j / 4 < l.length := by omega
          obtain ⟨ad, rfl, hn, hc⟩ := (HL.out.kept hk (fun _ h => h)) (j / 4) (I (l.getD (j / 4) 0)) (getI _ _ hjl)
          obtain rfl := hA' (by omega)
          have Hne : Hid (R.bs ≠ []) := hide (fun e => by have h0 := congrArg List.length e; simp only [List.length_nil] at h0; omega)
          replace ha := ha Hne.out
          obtain ⟨z, hz⟩ : ∃ z, z = l.getD (j / 4) 0 := ⟨_, rfl⟩
          rw [← hz] at hc
          unfold I at hc
          have Hz := hide hz
          clear hz
          obtain ⟨v0, hv0⟩ := ha.any (i := R.pos + j) (by omega)
          have hvf := ha.frozen (R.pos + j)
          have HA := hide ha
          have HB := hide hb
          clear ha hb
          have g1 : IntKind.i64.wrap ((j : Int) / 4) = (j : Int) / 4 := IntWalk.i64_in _ (by omega)
          have g2 : (0 : Int) ≤ (j : Int) / 4 := by omega
          have g3 : (j : Int) / 4 < l.length := by omega
          have g4 : ((j : Int) / 4).toNat = j / 4 := by omega
          have hw0 : IntKind.i64.wrap 0 = 0 := by decide
          have hw16 : IntKind.i64.wrap 16 = 16 := by decide
          have hw24 : IntKind.i64.wrap 24 = 24 := by decide
          have hw8 : IntKind.i64.wrap 8 = 8 := by decide
          rcases (show (j : Int).tmod 4 = 0 ∨ (j : Int).tmod 4 = 1 ∨ (j : Int).tmod 4 = 2 ∨ (j : Int).tmod 4 = 3 by rw [Int.tmod_eq_emod_of_nonneg (by omega)]; omega) with hr | hr | hr | hr
          all_goals
            go_wp2
            go_still_tail 15, (by kernel_rfl)
            change wpList _ _ _ _ _ (World.drew wr)
            go_wp2
            go_roundw
            case rel =>
              have HR := hide hr
              clear hr
              refine ⟨j + 1, by omega, by go_num, (hk.set_ (.inl (by simp)) _ _).drew, (HB.out.far_ (Ne.symm (HP.out Hne.out)) _ _).drew, fun _ => ?_⟩
              rw [bytesOf_take 4 l j (by omega), ← over_snoc _ _ _ _ (by simp [bytesOf_length]; omega), show R.pos + ((bytesOf 4 l).take j).length = R.pos + j by simp [bytesOf_length]; omega]
              have e := HR.out
              rw [byteOf_val 4 l j z _ Hz.out (by rw [show j % 4 = ((j : Int).tmod 4).toNat by rw [Int.tmod_eq_emod_of_nonneg (by omega)]; omega, e]; simp)]
              exact (HA.out.set_ _).drew
            case measure => simp [intOf]; omega
        · obtain rfl : j = 4 * l.length := by omega
          go_wp2
          go_ret
          rw [List.take_of_length_le (by rw [bytesOf_length]; omega)] at ha
          have hol : (over R.bs R.pos (bytesOf 4 l)).length = R.bs.length := over_length _ _ _ (by rw [bytesOf_length]; omega)
          refine ⟨rfl, ⟨?_, fun hn => ha (fun e => hn (List.eq_nil_of_length_eq_zero (by rw [hol, e]; rfl))), ?_, ?_, ?_, hA⟩, hk⟩
          · show Blk _ _ _ #[.slice A (over R.bs R.pos (bytesOf 4 l)).length cap, .int .i64 ((R.pos + 4 * l.length : Nat) : Int)]
            rw [hol, show ((R.pos + 4 * l.length : Nat) : Int) = (R.pos : Int) + 4 * (l.length : Int) by omega]
            exact hb
          · show (over R.bs R.pos (bytesOf _ l)).length ≤ cap
            omega
          · show R.pos + 4 * l.length ≤ (over R.bs R.pos (bytesOf 4 l)).length
            omega
          · show (over R.bs R.pos (bytesOf 4 l)).length ≤ 65536
            omega
end Go.Proofs.Ytbghkfjjmgmjmaa.row
