/- Package usage: New. -/
import Derived.Test.YtjcnndnipnkhoaaUsageOps
import Derived.Test.YtjcnndnipnkhoaaUsageFrees
namespace Go.Proofs.Ytjcnndnipnkhoaa.us
set_option linter.unusedSimpArgs false
open Go.RowKit Go.Proofs.Ytjcnndnipnkhoaa.mem Go.Proofs.Ytjcnndnipnkhoaa.base Go.Proofs.Ytjcnndnipnkhoaa.geom

theorem config_gc (p : Nat) (b s l r q : Int) (w : World) (h : GAt w p b s l r q) :
    Calls Try.prog 39 #[.pointer (some ⟨p, 0, none⟩)] w fun e w' => e = .returned (.agg #[.int .i64 b, .int .i64 s, .int .i64 l]) ∧ Kept [] w w' := config_at p b s l r q w h

theorem conf_segs (x y z : Int) (w : World) : (Instr.field 27 (.agg #[.int .i64 x, .int .i64 y, .int .i64 z]) 1).run Try.prog w = .ok (.int .i64 y) w := by kernel_rfl

theorem new_nil (A : Option Addr) (n c : Nat) (w : World) :
    Calls Try.prog 10 #[.pointer none, .slice A n c] w fun e w' => e = .returned (.pointer none) ∧ w = w' := by
  go_enter Try.func10, Try.ntmps10
  go_wp2
  go_ret
  exact ⟨rfl, rfl⟩

/-- Another number of uses than of segments. -/
theorem new_len (p : Nat) (b s l r q : Int) (A : Option Addr) (n c : Nat) (w : World) (h : GAt w p b s l r q) (h0 : 0 < n) (hn : (n : Int) ≠ s) :
    Calls Try.prog 10 #[.pointer (some ⟨p, 0, none⟩), .slice A n c] w fun e w' => e = .returned (.pointer none) ∧ Kept [] w w' := by
  obtain ⟨_, hs, _⟩ := h.ok
  have H := hide h
  have hmk := fun w => made_segs s.toNat (by omega) w
  have hst : ((s.toNat : Nat) : Int) = s := by omega
  obtain ⟨m, hm⟩ : ∃ m, s.toNat = m := ⟨_, rfl⟩
  rw [hm] at hst hmk
  subst hst
  have h3 : ((n : Int) != (m : Int)) = true := bne_iff_ne.2 hn
  have hfd := conf_segs b m l
  clear h hm
  go_enter Try.func10, Try.ntmps10
  go_wp2_with fail
  refine (config_gc p b m l r q _ H.out).mono ?_
  rintro e w1 ⟨rfl, hk⟩
  have HK := hide (hk.alloc (.cells (segsOf (List.replicate m Rw.zero)).toArray 76))
  clear hk
  go_wp2
  go_ret
  exact ⟨rfl, HK.out⟩

theorem new_none (p : Nat) (b s l r q : Int) (A : Option Addr) (c : Nat) (w : World) (h : GAt w p b s l r q) :
    Calls Try.prog 10 #[.pointer (some ⟨p, 0, none⟩), .slice A 0 c] w fun e w' => ∃ p' V, e = .returned (.pointer (some ⟨p', 0, none⟩)) ∧ w.heap.size ≤ p' ∧ w.heap.size ≤ V ∧ TAt w' p' V b s l r q (List.replicate s.toNat Rw.zero) ∧ Kept [] w w' := by
  obtain ⟨_, hs, _⟩ := h.ok
  have H := hide h
  have hmk := fun w => made_segs s.toNat (by omega) w
  have hst : ((s.toNat : Nat) : Int) = s := by omega
  obtain ⟨m, hm⟩ : ∃ m, s.toNat = m := ⟨_, rfl⟩
  rw [hm] at hst hmk ⊢
  subst hst
  have hfd := conf_segs b m l
  clear h hm
  go_enter Try.func10, Try.ntmps10
  go_wp2_with fail
  refine (config_gc p b m l r q _ H.out).mono ?_
  rintro e w1 ⟨rfl, hk⟩
  have HB : Hid (Blk (w1.alloc (.cells (segsOf (List.replicate m Rw.zero)).toArray 76)) w1.heap.size 76 (segsOf (List.replicate m Rw.zero)).toArray) := hide (Blk.new _ _ _)
  have HK := hide (hk.alloc (.cells (segsOf (List.replicate m Rw.zero)).toArray 76))
  have hsz := hk.size
  obtain ⟨V, hV⟩ : ∃ V, w1.heap.size = V := ⟨_, rfl⟩
  obtain ⟨w2, hw2⟩ : ∃ w2, w1.alloc (.cells (segsOf (List.replicate m Rw.zero)).toArray 76) = w2 := ⟨_, rfl⟩
  rw [hw2, hV] at HB
  rw [hw2] at HK
  clear hk
  go_wp2
  go_loopw [26] (fun i wr => i = .int .i64 0 ∧ wr = w2) (fun i _ => 0)
  case atStart => exact ⟨rfl, rfl⟩
  case round =>
    obtain ⟨rfl, rfl⟩ := hrel
    have hG := H.out.kept HK.out
    have g0 : wr.cell? ⟨p, 0, none⟩ = some (.int .i64 (b)) := hG.blk.cell 0
    have g1 : wr.cell? ⟨p, 1, none⟩ = some (.int .i64 (m)) := hG.blk.cell 1
    have g2 : wr.cell? ⟨p, 2, none⟩ = some (.int .i64 (l)) := hG.blk.cell 2
    have g3 : wr.cell? ⟨p, 3, none⟩ = some (.int .i64 (0)) := hG.blk.cell 3
    have g4 : wr.cell? ⟨p, 4, none⟩ = some (.int .i64 (2)) := hG.blk.cell 4
    have g5 : wr.cell? ⟨p, 5, none⟩ = some (.int .i64 (1)) := hG.blk.cell 5
    have g6 : wr.cell? ⟨p, 6, none⟩ = some (.int .i64 (2)) := hG.blk.cell 6
    have g7 : wr.cell? ⟨p, 7, none⟩ = some (.int .i64 (2)) := hG.blk.cell 7
    have g8 : wr.cell? ⟨p, 8, none⟩ = some (.int .i64 (r)) := hG.blk.cell 8
    have g9 : wr.cell? ⟨p, 9, none⟩ = some (.int .i64 (2 + 2 * r)) := hG.blk.cell 9
    have g10 : wr.cell? ⟨p, 10, none⟩ = some (.int .i64 (2 * q)) := hG.blk.cell 10
    have g11 : wr.cell? ⟨p, 11, none⟩ = some (.int .i64 (1)) := hG.blk.cell 11
    have g12 : wr.cell? ⟨p, 12, none⟩ = some (.int .i64 (2 + 2 * r + 2 * q)) := hG.blk.cell 12
    have g13 : wr.cell? ⟨p, 13, none⟩ = some (.int .i64 (2 * q)) := hG.blk.cell 13
    have g14 : wr.cell? ⟨p, 14, none⟩ = some (.int .i64 (1)) := hG.blk.cell 14
    have g15 : wr.cell? ⟨p, 15, none⟩ = some (.int .i64 (2 + 2 * r + 4 * q)) := hG.blk.cell 15
    have g16 : wr.cell? ⟨p, 16, none⟩ = some (.int .i64 (m)) := hG.blk.cell 16
    have g17 : wr.cell? ⟨p, 17, none⟩ = some (.int .i64 (l)) := hG.blk.cell 17
    clear hG
    go_wp2
    go_ret
    have hVl := HB.out.lt
    exact ⟨_, V, rfl, HK.out.size, by omega, ⟨by rw [List.length_replicate]; exact Blk.new _ _ _, HB.out.alloc _, by omega, H.out.ok, H.out.hr, H.out.hq, by simp, rep_good m⟩, HK.out.alloc _⟩

set_option maxRecDepth 100000 in
set_option maxHeartbeats 1000000 in
/-- One given for each segment. -/
theorem new_given (p : Nat) (b s l r q : Int) (A : Option Addr) (n c : Nat) (us : List Rw) (w : World) (h : GAt w p b s l r q) (hv : Vals w [] A (usesOf us)) (hl : us.length = n) (hn : (n : Int) = s) (hp : plain us) :
    Calls Try.prog 10 #[.pointer (some ⟨p, 0, none⟩), .slice A n c] w fun e w' =>
      (allMay us ∧ ∃ p' V, e = .returned (.pointer (some ⟨p', 0, none⟩)) ∧ w.heap.size ≤ p' ∧ w.heap.size ≤ V ∧ TAt w' p' V b s l r q us ∧ Kept [] w w') ∨
      (¬ allMay us ∧ e = .returned (.pointer none) ∧ Kept [] w w') := by
  obtain ⟨_, hs, _⟩ := h.ok
  have H := hide h
  have HV := hide hv
  subst hn
  obtain ⟨m, hm⟩ : ∃ m, n = m := ⟨_, rfl⟩
  subst hm
  have hmk := fun w => made_segs n (by omega) w
  have hfd := conf_segs b n l
  have HL := hide hl
  have HP := hide hp
  have hn0 : (0 : Int) < n := by omega
  have hn1 : 0 < n := by omega
  have hne : ((n : Int) != n) = false := by simp
  clear h hv hl hp
  go_enter Try.func10, Try.ntmps10
  go_wp2_with fail
  refine (config_gc p b n l r q _ H.out).mono ?_
  rintro e w1 ⟨rfl, hk⟩
  have HB : Hid (Blk (w1.alloc (.cells (segsOf (List.replicate n Rw.zero)).toArray 76)) w1.heap.size 76 (segsOf (List.replicate n Rw.zero)).toArray) := hide (Blk.new _ _ _)
  have HK := hide (hk.alloc (.cells (segsOf (List.replicate n Rw.zero)).toArray 76))
  have hsz := hk.size
  obtain ⟨V, hV⟩ : ∃ V, w1.heap.size = V := ⟨_, rfl⟩
  obtain ⟨w2, hw2⟩ : ∃ w2, w1.alloc (.cells (segsOf (List.replicate n Rw.zero)).toArray 76) = w2 := ⟨_, rfl⟩
  rw [hw2, hV] at HB
  rw [hw2] at HK
  rw [hV] at hsz
  clear hk
  go_wp2
  go_loopw [26, 6, 7] (fun i u v wr => ∃ k : Nat, k ≤ n ∧ i = .int .i64 k ∧ Hid (Blk wr V 76 (segsOf (us.take k ++ List.replicate (n - k) Rw.zero)).toArray) ∧ Hid (allMay (us.take k)) ∧ Hid (Kept [] w wr)) (fun i u v _ => n - (intOf i).toNat)
  case atStart => exact ⟨0, Nat.zero_le _, rfl, hide (by simpa using HB.out), hide (by simp [allMay]), HK⟩
  case round =>
    obtain ⟨k, hk, rfl, HB2, HM2, HK2⟩ := hrel
    by_cases hlt : k < n
    · obtain ⟨x, hx⟩ : ∃ x, us[k]? = some x := ⟨_, List.getElem?_eq_getElem (by rw [HL.out]; exact hlt)⟩
      obtain ⟨ad, rfl, _, c0, c1⟩ := uses_at (HV.out.kept HK2.out (by simp)) hx
      have hVl := HB2.out.lt
      have HX := hide hx
      have hb0 : Blk (wr.alloc (.cells #[.int .i64 x.s, .int .i64 x.t] 61)) wr.heap.size 61 #[.int .i64 x.s, .int .i64 x.t] := Blk.new wr _ _
      have hk0 := (Kept.refl [] wr).alloc (.cells #[.int .i64 x.s, .int .i64 x.t] 61)
      clear hx
      go_wp2_with fail
      refine (mayUse_any x.s x.t _).mono ?_
      rintro e w4 ⟨rfl, hk4⟩
      have hb4 := hk4.blk hb0 (by simp)
      have b0 : w4.cell? ⟨wr.heap.size, 0, none⟩ = some (.int .i64 x.s) := hb4.cell 0
      have b1 : w4.cell? ⟨wr.heap.size, 1, none⟩ = some (.int .i64 x.t) := hb4.cell 1
      have hk5 := hk0.trans hk4 (by simp)
      have HK5 := hide (HK2.out.trans hk5 (by simp))
      have hbv := hk5.blk HB2.out (by simp)
      have hz := part_at HL.out hlt
      have e0 : w4.cell? ⟨V, k * 3, none⟩ = some (.int .i64 0) := segs_cell hbv hz 0 (by omega)
      have e1 : w4.cell? ⟨V, k * 3 + 1, none⟩ = some (.int .i64 0) := segs_cell hbv hz 1 (by omega)
      have f0 := hbv.frozen (k * 3)
      have f1 := hbv.frozen (k * 3 + 1)
      have HZ := hide (segs_put hbv HL.out hlt HX.out (HP.out x (List.mem_of_getElem? HX.out)))
      have HKZ := hide ((HK5.out.set_ (b := V) (.inr (by omega)) (k * 3) (.int .i64 x.s)).set_ (b := V) (.inr (by omega)) (k * 3 + 1) (.int .i64 x.t))
      have hk0' : (0 : Int) ≤ k := by omega
      have hk1' : (k : Int) < (n : Int) := by omega
      clear hb0 hk0 hk4 hb4 hk5 hbv hz
      cases hm : mayUse x.s x.t
      · have HE := hide (allMay_not HX.out hm)
        clear hm
        go_wp2
        go_ret
        exact .inr ⟨HE.out, rfl, HK5.out⟩
      · have HE := hide (allMay_next HM2.out HX.out hm)
        clear hm
        go_wp2
        go_roundw
        case rel => exact ⟨k + 1, by omega, by go_num, HZ, HE, HKZ⟩
        case measure => simp [intOf]; omega
    · obtain rfl : k = n := by omega
      have hfull : us.take k ++ List.replicate (k - k) Rw.zero = us := by rw [List.take_of_length_le (by rw [HL.out]; exact Nat.le_refl _)]; simp
      rw [hfull] at HB2
      rw [List.take_of_length_le (by rw [HL.out]; exact Nat.le_refl _)] at HM2
      clear hfull
      have hG := H.out.kept HK2.out
      have g0 : wr.cell? ⟨p, 0, none⟩ = some (.int .i64 (b)) := hG.blk.cell 0
      have g1 : wr.cell? ⟨p, 1, none⟩ = some (.int .i64 (k)) := hG.blk.cell 1
      have g2 : wr.cell? ⟨p, 2, none⟩ = some (.int .i64 (l)) := hG.blk.cell 2
      have g3 : wr.cell? ⟨p, 3, none⟩ = some (.int .i64 (0)) := hG.blk.cell 3
      have g4 : wr.cell? ⟨p, 4, none⟩ = some (.int .i64 (2)) := hG.blk.cell 4
      have g5 : wr.cell? ⟨p, 5, none⟩ = some (.int .i64 (1)) := hG.blk.cell 5
      have g6 : wr.cell? ⟨p, 6, none⟩ = some (.int .i64 (2)) := hG.blk.cell 6
      have g7 : wr.cell? ⟨p, 7, none⟩ = some (.int .i64 (2)) := hG.blk.cell 7
      have g8 : wr.cell? ⟨p, 8, none⟩ = some (.int .i64 (r)) := hG.blk.cell 8
      have g9 : wr.cell? ⟨p, 9, none⟩ = some (.int .i64 (2 + 2 * r)) := hG.blk.cell 9
      have g10 : wr.cell? ⟨p, 10, none⟩ = some (.int .i64 (2 * q)) := hG.blk.cell 10
      have g11 : wr.cell? ⟨p, 11, none⟩ = some (.int .i64 (1)) := hG.blk.cell 11
      have g12 : wr.cell? ⟨p, 12, none⟩ = some (.int .i64 (2 + 2 * r + 2 * q)) := hG.blk.cell 12
      have g13 : wr.cell? ⟨p, 13, none⟩ = some (.int .i64 (2 * q)) := hG.blk.cell 13
      have g14 : wr.cell? ⟨p, 14, none⟩ = some (.int .i64 (1)) := hG.blk.cell 14
      have g15 : wr.cell? ⟨p, 15, none⟩ = some (.int .i64 (2 + 2 * r + 4 * q)) := hG.blk.cell 15
      have g16 : wr.cell? ⟨p, 16, none⟩ = some (.int .i64 (k)) := hG.blk.cell 16
      have g17 : wr.cell? ⟨p, 17, none⟩ = some (.int .i64 (l)) := hG.blk.cell 17
      clear hG
      go_wp2
      go_ret
      have hVl := HB2.out.lt
      have hl := HL.out
      exact .inl ⟨HM2.out, _, V, rfl, HK2.out.size, by omega, ⟨by rw [hl]; exact Blk.new _ _ _, HB2.out.alloc _, by omega, H.out.ok, H.out.hr, H.out.hq, by rw [hl], allMay_good HM2.out HP.out⟩, HK2.out.alloc _⟩
end Go.Proofs.Ytjcnndnipnkhoaa.us
