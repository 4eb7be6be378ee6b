import Derived.Test.YtbglcnpkajkkpaaRefGet
namespace Go.Proofs.Ytbglcnpkajkkpaa.ref
open Go.RowKit Go.Proofs.Ytbglcnpkajkkpaa.mem Go.Proofs.Ytbglcnpkajkkpaa.row

theorem rget_at (p b : Nat) (R : Row) (x : Int) (w : World) (h : RefAt w p b R) :
    Calls Try.prog 52 #[.pointer (some ⟨p, 0, none⟩), .int .i64 x] w fun e w' =>
      e = .returned (.tuple #[.int .i64 (R.get x).1, .bool (R.get x).2.1]) ∧ RefAt w' p b (R.get x).2.2 ∧ Kept [p] w w' := by
  by_cases hx : isW x = true
  · have hx' : x = 1 ∨ x = 2 ∨ x = 4 := by simpa [isW, or_assoc] using hx
    obtain ⟨x, rfl⟩ := Int.eq_ofNat_of_zero_le (show 0 ≤ x by omega)
    by_cases hr : R.pos + x ≤ R.bs.length
    · have e : R.get x = (numOf ((R.bs.drop R.pos).take x), true, ⟨R.bs, R.pos + x⟩) := if_pos ⟨hx, hr⟩
      rw [e]
      exact rget_ok p b R x w h hx hr
    · have e : R.get x = (0, false, R) := if_neg (fun h => hr h.2)
      rw [e]
      exact (rget_short p b R x w h hx (by omega)).mono fun e w' ⟨h1, k, h2⟩ => ⟨h1, by subst h2; exact h.drewN k, by subst h2; exact (Kept.refl _ w).drewN k⟩
  · have e : R.get x = (0, false, R) := if_neg (fun h => hx h.1)
    rw [e]
    exact (rget_width p b R x w h ((Bool.not_eq_true _).mp hx)).mono fun e w' ⟨h1, k, h2⟩ => ⟨h1, by subst h2; exact h.drewN k, by subst h2; exact (Kept.refl _ w).drewN k⟩

theorem rlay_no (p b : Nat) (R : Row) (L : Option Addr) (n c : Nat) (w : World) (h : RefAt w p b R) (hr : R.bs.length < R.pos + n) :
    Calls Try.prog 45 #[.pointer (some ⟨p, 0, none⟩), .slice L n c] w fun e w' => e = .returned (.bool false) ∧ ∃ k, w' = w.drewN k := by
  have hc0 := h.c0
  have hc1 := h.c1
  have hlen := h.len_le
  have hpl := h.pos_le
  have g2 : IntKind.i64.wrap ((R.bs.length : Int) - (R.pos : Int)) = (R.bs.length : Int) - (R.pos : Int) := IntWalk.i64_in _ (by omega)
  have d1 : decide ((R.bs.length : Int) - (R.pos : Int) < (n : Int)) = true := decide_eq_true (by omega)
  clear h
  go_enter Try.func45, Try.ntmps45
  go_wp2
  go_quiet (fail)
  go_wp2
  go_ret
  exact ⟨rfl, _, rfl⟩

theorem lay_arr {w : World} {b n : Nat} {bs : List UInt8} (h : bs.length = n) (ha : Arr w b n bs) : Arr w b bs.length bs := by rw [h]; exact ha

theorem rlay_ok (p b : Nat) (R : Row) (L : Option Addr) (xs : List UInt8) (n c : Nat) (w : World) (hn : xs.length = n) (h : RefAt w p b R) (hl : Vals w [p, b] L (xs.map B)) (hr : R.pos + n ≤ R.bs.length) :
    Calls Try.prog 45 #[.pointer (some ⟨p, 0, none⟩), .slice L n c] w fun e w' =>
      e = .returned (.bool true) ∧ RefAt w' p b ⟨over R.bs R.pos xs, R.pos + n⟩ ∧ Kept [p, b] w w' := by
  have hc0 := h.c0
  have hc1 := h.c1
  have hlen := h.len_le
  have hpl := h.pos_le
  have g2 : IntKind.i64.wrap ((R.bs.length : Int) - (R.pos : Int)) = (R.bs.length : Int) - (R.pos : Int) := IntWalk.i64_in _ (by omega)
  have d1 : decide ((R.bs.length : Int) - (R.pos : Int) < (n : Int)) = false := decide_eq_false (by omega)
  have H := hide h
  have HL := hide hl
  have HN := hide hn
  clear h hl hn
  go_enter Try.func45, Try.ntmps45
  go_wp2
  go_quiet (fail)
  go_wp2
  clear d1 g2
  have H1 := hide (H.out.drewN nq)
  have K1 : Hid (Kept [p, b] w (w.drewN nq)) := hide ((Kept.refl _ w).drewN nq)
  have KS : Hid (w.heap.size ≤ (w.drewN nq).heap.size) := hide (Nat.le_refl _)
  generalize w.drewN nq = w1 at *
  clear hc0 hc1
  have hc0 := H1.out.c0
  have hc1 := H1.out.c1
  have hf1 := H1.out.f1
  go_still_tail 10, (by kernel_rfl)
  change wpList _ _ _ _ _ (World.drew w1)
  refine wpList_copy_bytes rfl (.tmp 26) (.tmp 27) 26 26 rfl Try.underlying26 size8 (if R.bs.length = R.pos then some ⟨b, 0, none⟩ else some ⟨b, R.pos, none⟩) L (R.bs.length - R.pos) (R.bs.length - R.pos) n c rfl rfl xs (by rw [HN.out]; exact (Nat.min_eq_left (by omega)).symm) [p, b] ((HL.out.kept K1.out (fun _ h => h)).kept ((Kept.refl [] w1).drew) (by simp)) b R.pos R.bs.length R.bs (fun hx => ⟨if_neg (by have := HN.out; omega), H1.out.2.1, by rw [HN.out]; omega⟩) ?_
  intro w2 hk2 ha2 _
  have hne := H1.out.ne_
  have hb2 : Blk w2 p 65 #[.slice (some ⟨b, 0, none⟩) R.bs.length R.bs.length, .int .i64 R.pos] := hk2.blk (w := w2) (show Blk w1.drew p _ _ from H1.out.1) (by simpa using Ne.symm hne)
  have HA2 := hide (ha2 H1.out.2.1)
  have HK2 : Hid (Kept [p, b] w w2) := hide ((K1.out.drew).trans hk2 (by simp))
  have HB2 := hide hb2
  have HNE := hide hne
  clear hc0 hc1 hf1 hk2 ha2 hne hb2
  have hc1 : w2.cell? ⟨p, 1, none⟩ = some (.int .i64 R.pos) := HB2.out.cell 1
  have hf1 := HB2.out.frozen 1
  have hol : (over R.bs R.pos xs).length = R.bs.length := over_length _ _ _ (by rw [HN.out]; omega)
  have HOL := hide hol
  clear hol
  go_wp2
  all_goals go_ret
  all_goals have hol := HOL.out
  all_goals refine ⟨rfl, ⟨?_, ?_, by rw [hol]; exact hr, by rw [hol]; exact hlen⟩, (HK2.out.set_ (.inl (by simp)) _ _)⟩
  any_goals exact lay_arr hol (HA2.out.far_ HNE.out _ _)
  all_goals
    show Blk _ _ _ #[.slice (some ⟨b, 0, none⟩) (over R.bs R.pos xs).length (over R.bs R.pos xs).length, .int .i64 ((R.pos + n : Nat) : Int)]
    rw [hol]
    simpa using HB2.out.set_ 1 (.int .i64 ((R.pos : Int) + n))

/-- Equal: the same bytes. -/
theorem equal_any (A1 A2 : Option Addr) (c1 c2 : Nat) (xs ys : List UInt8) (w : World) (h1 : Vals w [] A1 (xs.map B)) (h2 : Vals w [] A2 (ys.map B)) (hm : xs.length ≤ 140737488355328) :
    Calls Try.prog 31 #[.slice A1 xs.length c1, .slice A2 ys.length c2] w fun e w' => e = .returned (.bool (decide (xs = ys))) ∧ ∃ k, w' = w.drewN k := by
  have H1 := hide h1
  have H2 := hide h2
  clear h1 h2
  by_cases hl : xs.length = ys.length
  · have hl1 : ((xs.length : Int) != (ys.length : Int)) = false := by rw [bne_eq_false_iff_eq]; omega
    have HL := hide hl
    clear hl
    go_enter Try.func31, Try.ntmps31
    go_wp2
    go_loopw [5] (fun i wr => ∃ j : Nat, j ≤ xs.length ∧ i = .int .i64 j ∧ Hid (xs.take j = ys.take j) ∧ ∃ d, wr = w.drewN d) (fun i wr => xs.length - (intOf i).toNat)
    case atStart => exact ⟨0, Nat.zero_le _, rfl, hide rfl, 0, rfl⟩
    case round =>
      obtain ⟨j, hj, rfl, heq, d, rfl⟩ := hrel
      by_cases hlt : j < xs.length
      · have hlt2 : j < ys.length := by have := HL.out; omega
        obtain ⟨ad1, rfl, _, hx⟩ := H1.out j (B xs[j]) (by simp [hlt])
        obtain ⟨ad2, rfl, _, hy⟩ := H2.out j (B ys[j]) (by simp [hlt2])
        have hn1 := hide (List.take_succ_eq_append_getElem hlt)
        have hn2 := hide (List.take_succ_eq_append_getElem hlt2)
        have hat1 := hide (List.getElem?_eq_getElem hlt)
        have hat2 := hide (List.getElem?_eq_getElem hlt2)
        unfold B at hx hy
        generalize xs[j] = x at *
        generalize ys[j] = y at *
        by_cases hxy : x = y
        · subst hxy
          have ht : ((x.toNat : Int) != (x.toNat : Int)) = false := by simp
          go_wp2
          go_quiet (fail)
          go_wp2
          go_roundw
          case rel => exact ⟨j + 1, by omega, by go_num, hide (by rw [hn1.out, hn2.out, heq.out]), _, rfl⟩
          case measure => simp [intOf]; omega
        · have ht : ((x.toNat : Int) != (y.toNat : Int)) = true := by rw [bne_iff_ne]; exact fun e => hxy (UInt8.toNat_inj.1 (by omega))
          have HNEQ : Hid (decide (xs = ys) = false) := hide (decide_eq_false (fun e => hxy (by
            have a := hat1.out
            have b := hat2.out
            rw [e, b] at a
            injection a with a
            exact a.symm)))
          clear hxy
          go_wp2
          go_quiet (fail)
          go_wp2
          go_ret
          exact ⟨by rw [HNEQ.out]; rfl, _, World.drewN_drewN _ _ _⟩
      · obtain rfl : j = xs.length := by omega
        have HE : Hid (decide (xs = ys) = true) := hide (decide_eq_true (by
          have := heq.out
          rw [List.take_length, List.take_of_length_le (by have := HL.out; omega)] at this
          exact this))
        go_wp2
        go_ret
        exact ⟨by rw [HE.out]; rfl, _, rfl⟩
  · have hl1 : ((xs.length : Int) != (ys.length : Int)) = true := by rw [bne_iff_ne]; omega
    have HE : Hid (decide (xs = ys) = false) := hide (decide_eq_false (fun e => hl (by rw [e])))
    clear hl
    go_enter Try.func31, Try.ntmps31
    go_wp2
    go_ret
    exact ⟨by rw [HE.out]; rfl, 0, rfl⟩

theorem rlay_at (p b : Nat) (R : Row) (L : Option Addr) (xs : List UInt8) (n c : Nat) (w : World) (hn : xs.length = n) (h : RefAt w p b R) (hl : Vals w [p, b] L (xs.map B)) :
    Calls Try.prog 45 #[.pointer (some ⟨p, 0, none⟩), .slice L n c] w fun e w' =>
      e = .returned (.bool (R.lay xs).1) ∧ RefAt w' p b (R.lay xs).2 ∧ Kept [p, b] w w' := by
  by_cases hr : R.pos + xs.length ≤ R.bs.length
  · have e : R.lay xs = (true, ⟨over R.bs R.pos xs, R.pos + xs.length⟩) := if_pos hr
    rw [e, hn]
    exact rlay_ok p b R L xs n c w hn h hl (by omega)
  · have e : R.lay xs = (false, R) := if_neg hr
    rw [e]
    exact (rlay_no p b R L n c w h (by omega)).mono fun e w' ⟨h1, k, h2⟩ => ⟨h1, by subst h2; exact h.drewN k, by subst h2; exact (Kept.refl _ w).drewN k⟩

theorem bytes_any (A1 A2 : Option Addr) (n1 n2 c1 c2 : Nat) (xs ys : List UInt8) (w : World) (hn1 : xs.length = n1) (hn2 : ys.length = n2) (h1 : Vals w [] A1 (xs.map B)) (h2 : Vals w [] A2 (ys.map B)) (hm : n1 ≤ 140737488355328) :
    Calls Try.prog 14 #[.slice A1 n1 c1, .slice A2 n2 c2] w fun e w' => e = .returned (.bool (decide (xs = ys))) ∧ ∃ k, w' = w.drewN k := by
  subst hn1 hn2
  have H1 := hide h1
  have H2 := hide h2
  clear h1 h2
  go_enter Try.func14, Try.ntmps14
  go_wp2_with fail
  refine (equal_any A1 A2 c1 c2 xs ys _ H1.out H2.out hm).mono ?_
  rintro e w' ⟨rfl, k, rfl⟩
  go_wp2
  go_ret
  exact ⟨rfl, _, rfl⟩
end Go.Proofs.Ytbglcnpkajkkpaa.ref
