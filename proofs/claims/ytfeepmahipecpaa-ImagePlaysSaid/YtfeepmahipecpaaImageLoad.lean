/- Package image: Load. -/
import Derived.Test.YtfeepmahipecpaaImageOps
namespace Go.Proofs.Ytfeepmahipecpaa.im
set_option linter.unusedSimpArgs false
set_option linter.unusedVariables false
open Go.RowKit Go.Proofs.Ytfeepmahipecpaa.mem Go.Proofs.Ytfeepmahipecpaa.base Go.Proofs.Ytfeepmahipecpaa.pd Go.Proofs.Ytfeepmahipecpaa.owns

/-- A page gets its refs. -/
def Tb.load (t : Tb) (k b : Nat) (xs : List Int) : Tb := ⟨t.l.take b ++ (xs ++ t.l.drop (b + xs.length)), t.d.set k false⟩
theorem Tb.load_len (t : Tb) (k b : Nat) (xs : List Int) (h : b + xs.length ≤ t.l.length) : (t.load k b xs).l.length = t.l.length := by simp [Tb.load]; omega
theorem lay_map (l : List Int) (b : Nat) (xs : List Int) : lay (l.map I) b (xs.map I) = (l.take b ++ (xs ++ l.drop (b + xs.length))).map I := by simp [lay]
def least (ov : Bool) : Int := if ov then -1 else 0
def okRef (ov : Bool) (r : Int) : Bool := decide (least ov ≤ r ∧ r < 4096)
/-- What Load leaves. -/
def LoadPost (w w' : World) (X : Ib) (M : Im) (ov : Bool) (k b : Nat) (xs : List Int) (Q : Bool) : Prop := if Q = true then IAt w' X (M.put ov ((M.tb ov).load k b xs)) ∧ Kept [X.tv ov, X.td ov] w w' else Kept [] w w'
section
variable {w : World} {X : Ib} {M : Im}
set_option maxRecDepth 100000 in
theorem iload_short (h : IAt w X M) (ov : Bool) (k : Nat) (hk : k < (M.tb ov).d.length) (b m : Nat) (hb : k * 15 = b) (hm : min (b + 15) M.b.l.length - b = m) (A : Option Addr) (l c : Nat) (hl : l < m) :
    Calls Try.prog 24 #[.pointer (some ⟨X.m, 0, none⟩), .bool ov, .int .i64 k, .slice A l c] w fun e w' => e = .returned (.bool false) ∧ Kept [] w w' := by
  have HT := hide (table_any h ov)
  have hp := pageOf_yes (h.tab ov) (oneCell_I _) k hk b m hb (by rw [List.length_map, h.tlen]; exact hm)
  have HP := hide hp
  have hl2 : (l : Int) < (m : Int) := by omega
  clear h hk hb hm hp hl
  cases ov <;> (
    go_enter Try.func24, Try.ntmps24
    go_wp2_with fail
    refine HT.out.mono ?_
    rintro e w' ⟨rfl, rfl⟩
    go_wp2_with fail
    refine HP.out.mono ?_
    rintro e w' ⟨v, rfl, ho, hk⟩
    obtain ⟨A1, c1, rfl, _, _⟩ := own_read ho
    have HK := hide hk
    clear ho hk
    go_wp2
    go_ret
    exact ⟨rfl, HK.out⟩)
set_option maxRecDepth 100000 in
set_option maxHeartbeats 1000000 in
theorem iload_none (h : IAt w X M) (ov : Bool) (k : Int) (hk : ¬ (0 ≤ k ∧ k < (M.tb ov).d.length)) (A : Option Addr) (l c : Nat) (hlc : l ≤ c) :
    Calls Try.prog 24 #[.pointer (some ⟨X.m, 0, none⟩), .bool ov, .int .i64 k, .slice A l c] w fun e w' => e = .returned (.bool false) ∧ Kept [] w w' := by
  have HT := hide (table_any h ov)
  have HP := hide (pageOf_no (h.tab ov) k hk)
  have HLD := hide (fun (A : Option Addr) (c : Nat) => load_no (h.tab ov) k A 0 c (fun hh => hk ⟨hh.1, hh.2.1⟩))
  clear h hk
  cases ov <;> (
    go_enter Try.func24, Try.ntmps24
    go_wp2_with fail
    refine HT.out.mono ?_
    rintro e w' ⟨rfl, rfl⟩
    go_wp2_with fail
    refine HP.out.mono ?_
    rintro e w' ⟨rfl, rfl⟩
    go_wp2
    go_loopw [30] (fun i wr => i = .int .i64 0 ∧ wr = w) (fun _ _ => 0)
    case atStart => exact ⟨rfl, rfl⟩
    case round =>
      obtain ⟨rfl, rfl⟩ := hrel
      go_wp2_with fail
      refine (HLD.out _ _).mono ?_
      rintro e w' ⟨rfl, hk⟩
      have HK := hide hk
      clear hk
      go_wp2
      go_ret
      exact ⟨rfl, HK.out⟩)
set_option maxRecDepth 100000 in
set_option maxHeartbeats 1000000 in
theorem iload_any (h : IAt w X M) (ov : Bool) (k : Nat) (hk : k < (M.tb ov).d.length) (b m : Nat) (hb : k * 15 = b) (hm : min (b + 15) M.b.l.length - b = m) (A : Option Addr) (l c : Nat) (hlc : l ≤ c) (hl : m ≤ l) (xs : List Int) (hx : xs.length = l) (hv : Vals w [] A (xs.map I)) :
    Calls Try.prog 24 #[.pointer (some ⟨X.m, 0, none⟩), .bool ov, .int .i64 k, .slice A l c] w fun e w' => e = .returned (.bool ((xs.take m).all (okRef ov))) ∧
      LoadPost w w' X M ov k b (xs.take m) ((xs.take m).all (okRef ov)) := by
  have H := hide h
  have HT := hide (table_any h ov)
  have hp := pageOf_yes (h.tab ov) (oneCell_I _) k hk b m hb (by rw [List.length_map, h.tlen]; exact hm)
  have hs := (h.tab ov).starts hk
  rw [hb, List.length_map, h.tlen] at hs
  have hm1 : 1 ≤ m := by omega
  have hm2 : m ≤ 15 := by omega
  have hbm : b + m ≤ M.b.l.length := by omega
  have HP := hide hp
  have HV := hide hv
  have HX := hide hx
  have HBM := hide (show b + (xs.take m).length ≤ (M.tb ov).l.length from by rw [List.length_take, h.tlen]; omega)
  have HLD := hide (fun (W : World) (hi : IAt W X M) (hvv : Vals W [] A (xs.map I)) => load_yes (hi.tab ov) k hk A m c b hb (by rw [List.length_map, h.tlen]; exact hm.symm) ((xs.take m).map I) (by rw [List.length_map, List.length_take]; omega) (by rw [List.map_take]; intro i v hi; refine hvv i v ?_; rw [List.getElem?_take] at hi; split at hi; exact hi; cases hi) (oneCell_I _))
  have hl2 : ¬ (l : Int) < (m : Int) := by omega
  obtain ⟨Q, hQ⟩ : ∃ Q, (xs.take m).all (okRef ov) = Q := ⟨_, rfl⟩
  rw [hQ]
  have HQ := hide hQ
  clear h hk hb hm hp hv hs hx hQ
  cases ov with
  | false =>
    go_enter Try.func24, Try.ntmps24
    go_wp2_with fail
    refine HT.out.mono ?_
    rintro e w' ⟨rfl, rfl⟩
    go_wp2_with fail
    refine HP.out.mono ?_
    rintro e w1 ⟨v, rfl, ho, hk⟩
    obtain ⟨A1, c1, rfl, _, _⟩ := own_read ho
    have HK := hide hk
    have HV1 := hide (HV.out.kept hk (by simp))
    have HI1 := hide (H.out.keep hk)
    clear ho hk
    go_wp2
    go_loopw [30] (fun i wr => ∃ j : Nat, j ≤ m ∧ i = .int .i64 j ∧ wr = w1 ∧ Hid ((xs.take j).all (okRef false) = true)) (fun i _ => m - (intOf i).toNat)
    case atStart => exact ⟨0, Nat.zero_le _, rfl, rfl, hide (by simp)⟩
    case round =>
      obtain ⟨j, hj, rfl, rfl, hall⟩ := hrel
      by_cases hlt : j < m
      · obtain ⟨r, hr⟩ : ∃ r, xs[j]? = some r := ⟨_, List.getElem?_eq_getElem (by rw [HX.out]; omega)⟩
        obtain ⟨ad, rfl, _, a0⟩ := HV1.out j (I r) (by rw [List.getElem?_map, hr]; rfl)
        unfold I at a0
        have HR := hide hr
        clear hr
        have HTK := hide (show xs.take (j + 1) = xs.take j ++ [r] from by rw [List.take_add_one, HR.out]; rfl)
        have hbad : okRef false r = false → (xs.take m).all (okRef false) = false := fun e => by
          rw [List.all_eq_false]
          exact ⟨r, List.mem_of_getElem? (i := j) (by rw [List.getElem?_take_of_lt hlt]; exact HR.out), by simp [e]⟩
        have HBAD := hide hbad
        clear hbad
        by_cases g1 : r < 0
        · have q1 : decide (r < 0) = true := decide_eq_true g1
          have HF := hide (HBAD.out (by unfold okRef least; exact decide_eq_false (by simp; omega)))
          clear g1
          go_wp2
          go_ret
          rw [HQ.out] at HF
          exact ⟨by rw [HF.out]; rfl, by rw [HF.out]; unfold LoadPost; rw [if_neg (by decide)]; exact HK.out⟩
        · have q1 : decide (r < 0) = false := decide_eq_false g1
          by_cases g2 : r ≥ 4096
          · have q2 : decide (r ≥ 4096) = true := decide_eq_true g2
            have HF := hide (HBAD.out (by unfold okRef least; exact decide_eq_false (by simp; omega)))
            clear g1 g2
            go_wp2
            go_ret
            rw [HQ.out] at HF
            exact ⟨by rw [HF.out]; rfl, by rw [HF.out]; unfold LoadPost; rw [if_neg (by decide)]; exact HK.out⟩
          · have q2 : decide (r ≥ 4096) = false := decide_eq_false g2
            have HA := hide (show (xs.take (j + 1)).all (okRef false) = true from by rw [HTK.out, List.all_append, hall.out]; simp [okRef, least]; omega)
            clear g1 g2
            go_wp2
            go_roundw
            case rel => exact ⟨j + 1, by omega, by go_num, trivial, HA⟩
            case measure => simp [intOf]; omega
      · obtain rfl : j = m := by omega
        go_wp2_with fail
        refine (HLD.out _ HI1.out HV1.out).mono ?_
        rintro e w2 ⟨rfl, ht, hk⟩
        rw [lay_map] at ht
        have HT2 := hide ht
        have HK2 := hide hk
        clear ht hk
        go_wp2
        go_ret
        have HF := hide (HQ.out.symm.trans hall.out)
        refine ⟨by rw [HF.out]; rfl, ?_⟩
        rw [HF.out]
        unfold LoadPost
        rw [if_pos rfl]
        exact ⟨HI1.out.turn false HK2.out HT2.out (Tb.load_len _ k b _ HBM.out), (HK.out.mono (by simp)).trans HK2.out (fun y hy => .inl hy)⟩
  | true =>
    go_enter Try.func24, Try.ntmps24
    go_wp2_with fail
    refine HT.out.mono ?_
    rintro e w' ⟨rfl, rfl⟩
    go_wp2_with fail
    refine HP.out.mono ?_
    rintro e w1 ⟨v, rfl, ho, hk⟩
    obtain ⟨A1, c1, rfl, _, _⟩ := own_read ho
    have HK := hide hk
    have HV1 := hide (HV.out.kept hk (by simp))
    have HI1 := hide (H.out.keep hk)
    clear ho hk
    go_wp2
    go_loopw [30] (fun i wr => ∃ j : Nat, j ≤ m ∧ i = .int .i64 j ∧ wr = w1 ∧ Hid ((xs.take j).all (okRef true) = true)) (fun i _ => m - (intOf i).toNat)
    case atStart => exact ⟨0, Nat.zero_le _, rfl, rfl, hide (by simp)⟩
    case round =>
      obtain ⟨j, hj, rfl, rfl, hall⟩ := hrel
      by_cases hlt : j < m
      · obtain ⟨r, hr⟩ : ∃ r, xs[j]? = some r := ⟨_, List.getElem?_eq_getElem (by rw [HX.out]; omega)⟩
        obtain ⟨ad, rfl, _, a0⟩ := HV1.out j (I r) (by rw [List.getElem?_map, hr]; rfl)
        unfold I at a0
        have HR := hide hr
        clear hr
        have HTK := hide (show xs.take (j + 1) = xs.take j ++ [r] from by rw [List.take_add_one, HR.out]; rfl)
        have hbad : okRef true r = false → (xs.take m).all (okRef true) = false := fun e => by
          rw [List.all_eq_false]
          exact ⟨r, List.mem_of_getElem? (i := j) (by rw [List.getElem?_take_of_lt hlt]; exact HR.out), by simp [e]⟩
        have HBAD := hide hbad
        clear hbad
        by_cases g1 : r < -1
        · have q1 : decide (r < -1) = true := decide_eq_true g1
          have HF := hide (HBAD.out (by unfold okRef least; exact decide_eq_false (by simp; omega)))
          clear g1
          go_wp2
          go_ret
          rw [HQ.out] at HF
          exact ⟨by rw [HF.out]; rfl, by rw [HF.out]; unfold LoadPost; rw [if_neg (by decide)]; exact HK.out⟩
        · have q1 : decide (r < -1) = false := decide_eq_false g1
          by_cases g2 : r ≥ 4096
          · have q2 : decide (r ≥ 4096) = true := decide_eq_true g2
            have HF := hide (HBAD.out (by unfold okRef least; exact decide_eq_false (by simp; omega)))
            clear g1 g2
            go_wp2
            go_ret
            rw [HQ.out] at HF
            exact ⟨by rw [HF.out]; rfl, by rw [HF.out]; unfold LoadPost; rw [if_neg (by decide)]; exact HK.out⟩
          · have q2 : decide (r ≥ 4096) = false := decide_eq_false g2
            have HA := hide (show (xs.take (j + 1)).all (okRef true) = true from by rw [HTK.out, List.all_append, hall.out]; simp [okRef, least]; omega)
            clear g1 g2
            go_wp2
            go_roundw
            case rel => exact ⟨j + 1, by omega, by go_num, trivial, HA⟩
            case measure => simp [intOf]; omega
      · obtain rfl : j = m := by omega
        go_wp2_with fail
        refine (HLD.out _ HI1.out HV1.out).mono ?_
        rintro e w2 ⟨rfl, ht, hk⟩
        rw [lay_map] at ht
        have HT2 := hide ht
        have HK2 := hide hk
        clear ht hk
        go_wp2
        go_ret
        have HF := hide (HQ.out.symm.trans hall.out)
        refine ⟨by rw [HF.out]; rfl, ?_⟩
        rw [HF.out]
        unfold LoadPost
        rw [if_pos rfl]
        exact ⟨HI1.out.turn true HK2.out HT2.out (Tb.load_len _ k b _ HBM.out), (HK.out.mono (by simp)).trans HK2.out (fun y hy => .inl hy)⟩
end
end Go.Proofs.Ytfeepmahipecpaa.im
