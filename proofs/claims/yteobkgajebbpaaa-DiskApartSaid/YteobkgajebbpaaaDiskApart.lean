/-
  The given statement DiskApartSaid is proved: whatever the arguments are, the law returns true and leaves its input as it was. No conditions.
-/
import Derived.Test.YteobkgajebbpaaaDiskQuad
import Derived.Test.YteobkgajebbpaaaOpen
import Derived.WalkKit
import Derived.ProofKit
import Derived.OpenShut
import Derived.ShutString
import Derived.ChangeOld
import Derived.Below
namespace Go.Proofs.Yteobkgajebbpaaa.diskApart
open Go.ChangeShapes Go.WideShapes Go.ChangeAt Go.RowKit
open Go.ChangeMaps (open_string shut_string)
open Go.Proofs.Yteobkgajebbpaaa.mem Go.Proofs.Yteobkgajebbpaaa.base Go.Proofs.Yteobkgajebbpaaa.disk
set_option linter.unusedVariables false

theorem own : ownKnob Try.prog.godebug = none := by kernel_rfl
theorem laidOut : laidOutB Try.prog = true := by kernel_rfl

/-- A disk of five sectors with power for good, behind so many acts. -/
structure Five (k : Nat) (D : Dk) : Prop where
  sz : D.n = 5
  off : D.off = false
  fuse : D.fuse = -1
  acts : D.acts = k
theorem five_new : Five 0 (Dk.new 5) := ⟨new_n 5, rfl, rfl, rfl⟩
theorem five_write {k i : Nat} {D : Dk} {bs : List UInt8} (h : Five k D) (hi : i < 5) (hl : bs.length = 64) : (D.write i bs).1 = 0 ∧ Five (k + 1) (D.write i bs).2 := by
  have ht : D.tick = true := by unfold Dk.tick; rw [h.off, h.fuse]; rfl
  have e := write_eq (D := D) (i := i) (b := bs) (by rw [h.sz]; exact hi) hl ht
  rw [e]
  obtain ⟨t1, t2, t3, t4⟩ := @ticked_same D
  have e2 : D.ticked = { D with acts := D.acts + 1, fuse := if 0 < D.fuse then D.fuse - 1 else D.fuse } := by unfold Dk.ticked; rw [ht]; rfl
  refine ⟨rfl, ticked_n.trans h.sz, ?_, ?_, t4.trans (by rw [h.acts])⟩
  · show D.ticked.off = false
    rw [e2]; exact h.off
  · show D.ticked.fuse = -1
    rw [e2]
    show (if 0 < D.fuse then D.fuse - 1 else D.fuse) = -1
    rw [h.fuse]; rfl

set_option maxRecDepth 100000 in
set_option maxHeartbeats 1000000 in
theorem walk_out (a0 a1 : Option Addr) (n c m d : Nat) (w : World) (h : 30 < n ∨ n ≤ 30 ∧ 30 < m) :
    Calls Try.prog 8 #[.slice a0 n c, .slice a1 m d] w fun e w' => e = .returned (.bool true) ∧ Below w.heap.size w w' := by
  rcases h with h | h
  all_goals
    go_enter Try.func8, Try.ntmps8
    go_wp2_with (go_at_call 9; refine (awake_any _).mono ?_; rintro e w' ⟨rfl, hb⟩)
    all_goals go_ret
    all_goals exact ⟨rfl, hb.below (by simp)⟩

set_option maxRecDepth 100000 in
set_option maxHeartbeats 1000000 in
theorem walk_in (a0 a1 : Option Addr) (n c m d : Nat) (l l2 : List Int) (w : World) (hv : Vals w [] a0 (l.map I)) (hl : l.length = n) (hv2 : Vals w [] a1 (l2.map I)) (hl2 : l2.length = m) (hn : n ≤ 30) (hm : m ≤ 30) :
    Calls Try.prog 8 #[.slice a0 n c, .slice a1 m d] w fun e w' => e = .returned (.bool true) ∧ Below w.heap.size w w' := by
  have HV := hide hv
  have HL := hide hl
  have HV2 := hide hv2
  have HL2 := hide hl2
  clear hv hl hv2 hl2
  go_enter Try.func8, Try.ntmps8
  go_wp2_with fail
  refine (two_at 5 5 rfl _ (by omega) (by omega)).mono ?_
  rintro e w1 ⟨F, p, G, r, rfl, hp⟩
  have HP := hide hp
  clear hp
  have H5 := hide five_new
  generalize Dk.new 5 = D0 at *
  go_wp2
  go_loopw [8] (fun i wr => ∃ (k : Nat) (F G : List Nat) (D : Dk), k ≤ n ∧ i = .int .i64 k ∧ Hid (Five k D) ∧ Hid (Pr w wr F p D G r D)) (fun i wr => n - (intOf i).toNat)
  case atStart => exact ⟨0, F, G, D0, Nat.zero_le _, rfl, H5, HP⟩
  case round =>
    obtain ⟨k, F, G, D, hk, rfl, HF5, HPR⟩ := hrel
    clear HP H5
    by_cases hlt : k < n
    · have hkl : k < l.length := by rw [HL.out]; exact hlt
      obtain ⟨ad, rfl, _, hc0⟩ := (HV.out.kept HPR.out.a.2.2 (by simp)) k (I l[k]) (by rw [List.getElem?_map, List.getElem?_eq_getElem hkl]; rfl)
      unfold I at hc0
      generalize l[k] = x at hc0
      have hact : D.acts < 1000000 := by have := HF5.out.acts; omega
      go_wp2_with fail
      refine (round_ex x 5 _ (by omega) (by omega)).mono ?_
      rintro e w2 ⟨y, hy, rfl, rfl⟩
      have h5 := five_write (i := y) (bs := fillOf (k : Int)) HF5.out (by omega) (fillOf_length _)
      have E0 := hide h5.1
      have E5 := hide h5.2
      clear h5 hkl
      go_wp2_with fail
      refine (pr_fill (k : Int) HPR.out).mono ?_
      rintro e w3 ⟨g3, rfl, hp3, hv3, _, _, _⟩
      have HP3 := hide hp3
      have HV3 := hide hv3
      clear hp3 hv3
      go_wp2_with fail
      refine (pr_write w y _ 64 64 (fillOf (k : Int)) _ HP3.out hact HV3.out (fillOf_length _)).mono ?_
      rintro e w4 ⟨rfl, ⟨F4, hp4⟩, _, _⟩
      have HP4 := hide hp4
      clear hp4 HP3 HV3
      rw [E0.out]
      go_wp2_with fail
      refine (pr_fill (k : Int) HP4.out).mono ?_
      rintro e w5 ⟨g5, rfl, hp5, _, hv5, _, _⟩
      have HP5 := hide hp5
      have HV5 := hide hv5
      clear hp5 hv5 HP4
      go_wp2_with fail
      refine (pr_rwrite w y _ 64 64 (fillOf (k : Int)) _ HP5.out hact HV5.out (fillOf_length _) (by omega)).mono ?_
      rintro e w6 ⟨rfl, G6, hp6⟩
      have HP6 := hide hp6
      clear hp6 HP5 HV5 hc0
      go_wp2
      exact ⟨⟨k + 1, F4, G6, _, by omega, by go_num, E5, HP6⟩, by simp [intOf]; omega⟩
    · obtain rfl : k = n := by omega
      have hact : D.acts ≤ 1000000 := by have := HF5.out.acts; omega
      have hact2 : D.acts ≤ 30 := by have := HF5.out.acts; omega
      go_wp2_with fail
      refine (crash_at p F D a1 m d l2 _ HPR.out.a.1 hact (HV2.out.kept HPR.out.a.2.2 (by simp)) HL2.out).mono ?_
      rintro e w2 ⟨F2, p2, rfl, hv2, hF2, hk2⟩
      have HP2 := hide (HPR.out.kept hk2)
      have HVD2 := hide hv2
      have HF2 := hide hF2
      have HFL : Hid (∀ x, x ∈ F ∨ x ∈ G → x < wr.heap.size) := hide (fun x hx => by rcases hx with hx | hx; exact HPR.out.a.1.lt x hx; exact HPR.out.b.lt x hx)
      have HS2 := hide hk2.size
      have hszr := HPR.out.a.2.2.size
      clear hv2 hF2 hk2 HPR
      go_wp2_with fail
      refine (rcrash_at r G D a1 m d l2 _ HP2.out.b hact (HV2.out.kept HP2.out.a.2.2 (by simp)) HL2.out (by omega)).mono ?_
      rintro e w3 ⟨G2, r2, rfl, hr3, hG2, hk3⟩
      have hs0 := HP2.out.a.2.2.size
      have hQ : Qd w w3 F p D G r D F2 p2 (D.crash l2) G2 r2 (D.crash l2) := by
        have h1 := HP2.out.kept hk3
        have hsz := HS2.out
        refine ⟨h1, ⟨⟨HVD2.out.kept hk3 (by simp), fun x hx => ?_, h1.a.2.2⟩, hr3, fun x hx => ?_, fun x hx hm => ?_⟩, fun x hx => ⟨fun hm => ?_, fun hm => ?_⟩, fun x hx => ⟨fun hm => ?_, fun hm => ?_⟩⟩
        · have := HF2.out x hx
          have hs1 : w.heap.size ≤ wr.heap.size := hszr
          omega
        · have := hG2 x hx; omega
        · have := HVD2.out.lt x hx; have := hG2 x hm; omega
        · have := HFL.out x (.inl hx); have := HF2.out x hm; omega
        · have := HFL.out x (.inl hx); have := hG2 x hm; omega
        · have := HFL.out x (.inr hx); have := HF2.out x hm; omega
        · have := HFL.out x (.inr hx); have := hG2 x hm; omega
      have HQ := hide hQ
      clear hr3 hG2 hk3 HP2 HVD2 HF2 HFL HS2 hQ
      have HCA : Hid ((D.crash l2).acts = 0) := hide rfl
      generalize D.crash l2 = C at *
      go_wp2
      go_loopw [12] (fun i wr => ∃ (k : Nat) (F G : List Nat) (E : Dk), k ≤ 5 ∧ i = .int .i64 k ∧ Hid (E.acts ≤ 30 + k) ∧ Hid (Qd w wr F p E G r E F2 p2 C G2 r2 C)) (fun i wr => 5 - (intOf i).toNat)
      case atStart => exact ⟨0, F, G, D, by omega, rfl, hide (by omega), HQ⟩
      case round =>
        obtain ⟨j, F, G, E, hj, rfl, HEA, HQR⟩ := hrel
        clear HQ
        by_cases hlt2 : j < 5
        · have hb1 : E.acts < 1000000 := by have := HEA.out; omega
          go_wp2_with fail
          refine (qd_fill 77 HQR.out).mono ?_
          rintro e w4 ⟨g4, rfl, hq4, hv4, _, _⟩
          have HQ4 := hide hq4
          have HV4 := hide hv4
          clear hq4 hv4
          go_wp2_with fail
          refine (write_at p F E j _ 64 64 (fillOf 77) _ HQ4.out.a.a.1 hb1 HV4.out (fillOf_length _)).mono ?_
          rintro e w5 ⟨rfl, ht5⟩
          obtain ⟨F5, hq5⟩ := HQ4.out.left ht5
          have HQ5 := hide hq5
          clear ht5 hq5 HQ4 HV4
          go_wp2_with fail
          refine (qd_fill 77 HQ5.out).mono ?_
          rintro e w6 ⟨g6, rfl, hq6, _, hv6, _⟩
          have HQ6 := hide hq6
          have HV6 := hide hv6
          clear hq6 hv6 HQ5
          go_wp2_with fail
          refine (rwrite_at r G E j _ 64 64 (fillOf 77) _ HQ6.out.a.b hb1 HV6.out (fillOf_length _) (by omega)).mono ?_
          rintro e w7 ⟨rfl, ht7⟩
          obtain ⟨G7, hq7⟩ := HQ6.out.right ht7
          have HQ7 := hide hq7
          have HWA := hide (write_acts E (j : Int) (fillOf 77))
          clear ht7 hq7 HQ6 HV6
          go_wp2
          exact ⟨⟨j + 1, F5, G7, _, by omega, by go_num, hide (by have := HEA.out; have := HWA.out; omega), HQ7⟩, by simp [intOf]; omega⟩
        · obtain rfl : j = 5 := by omega
          have hb1 : E.acts < 1000000 := by have := HEA.out; omega
          have hb2 : E.flush.2.acts ≤ 1000000 := by have := HEA.out; have := flush_acts E; omega
          have hc1 : C.acts ≤ 1000000 := by rw [HCA.out]; omega
          have hc2 : C.acts < 1000000 := by rw [HCA.out]; omega
          have hc3 : (C.write 1 (fillOf 9)).2.acts < 1000000 := by have := write_acts C 1 (fillOf 9); rw [HCA.out] at this; omega
          go_wp2_with fail
          refine (flush_at p F E _ HQR.out.a.a.1 hb1).mono ?_
          rintro e w4 ⟨rfl, ht4⟩
          obtain ⟨F4, hq4⟩ := HQR.out.left ht4
          have HQ4 := hide hq4
          clear ht4 hq4 HQR
          go_wp2_with fail
          refine (rflush_at r G E _ HQ4.out.a.b hb1).mono ?_
          rintro e w5 ⟨rfl, ht5⟩
          obtain ⟨G5, hq5⟩ := HQ4.out.right ht5
          have HQ5 := hide hq5
          clear ht5 hq5 HQ4
          go_wp2_with fail
          refine (same_at p2 r2 F2 G2 C _ HQ5.out.b.a.1 HQ5.out.b.b hc1).mono ?_
          rintro e w6 ⟨rfl, hk6⟩
          have HQ6 := hide (HQ5.out.kept hk6)
          clear hk6 HQ5
          go_wp2_with fail
          refine (qd_fill 9 HQ6.out).mono ?_
          rintro e w7 ⟨g7, rfl, hq7, _, _, hv7⟩
          have HQ7 := hide hq7
          have HV7 := hide hv7
          clear hq7 hv7 HQ6
          go_wp2_with fail
          refine (write_at p2 F2 C 1 _ 64 64 (fillOf 9) _ HQ7.out.b.a.1 hc2 HV7.out (fillOf_length _)).mono ?_
          rintro e w8 ⟨rfl, ht8⟩
          obtain ⟨F8, hq8⟩ := HQ7.out.left2 ht8
          have HQ8 := hide hq8
          clear ht8 hq8 HQ7 HV7
          go_wp2_with fail
          refine (flush_at p2 F8 _ _ HQ8.out.b.a.1 hc3).mono ?_
          rintro e w9 ⟨rfl, ht9⟩
          obtain ⟨F9, hq9⟩ := HQ8.out.left2 ht9
          have HQ9 := hide hq9
          clear ht9 hq9 HQ8
          go_wp2_with fail
          refine (same_at p r F4 G5 _ _ HQ9.out.a.a.1 HQ9.out.a.b hb2).mono ?_
          rintro e wa ⟨rfl, hka⟩
          have HQa := hide (HQ9.out.kept hka)
          clear hka HQ9
          go_wp2_with fail
          refine (awake_any _).mono ?_
          rintro e wb ⟨rfl, hkb⟩
          have HQb := hide (HQa.out.kept hkb)
          clear hkb HQa
          go_wp2
          go_ret
          exact ⟨rfl, HQb.out.a.a.below⟩

theorem walk (a0 : Option Addr) (len0 cap0 : Nat) (z0 : List Int) (a1 : Option Addr) (len1 cap1 : Nat) (z1 : List Int) (w : World) (w0 : IsRow .i64 w a0 len0 cap0 z0) (w1 : IsRow .i64 w a1 len1 cap1 z1) :
    Calls Try.prog 8 #[.slice a0 len0 cap0, .slice a1 len1 cap1] w fun e w' => e = .returned (.bool true) ∧ Below w.heap.size w w' := by
  obtain ⟨l, hl, _, hv, _⟩ := w0.ints
  obtain ⟨l2, hl2, _, hv2, _⟩ := w1.ints
  by_cases h : len0 ≤ 30 ∧ len1 ≤ 30
  · exact walk_in a0 a1 len0 cap0 len1 cap1 l l2 w hv hl hv2 hl2 h.1 h.2
  · exact walk_out a0 a1 len0 cap0 len1 cap1 w (by omega)

/-! ### the row's step, as the guide's skeleton has it -/
set_option maxRecDepth 100000 in
theorem lifted (os : Os) (started : os.Started) (H : Type) (enc : TypeId × Value → H) :
    ReturnsInHanded {} Try.checked os 8 .any (Rows.diskApartSpec.pre6 enc Try.prog Try.f8 Rows.diskApartRow.domain false) (Rows.diskApartSpec.post enc Try.prog Try.f8 false true false false) := by
  refine returnsInHanded_of_change (C := Try.checked) own started (by kernel_rfl) Try.func8
    (ChangeSpec.witness6 (enc := enc) (C := Try.checked) false ⟨#[], #[.slice none 0 0, .slice none 0 0], []⟩ 8 (by kernel_rfl) (by kernel_rfl) (by kernel_rfl) (by kernel_rfl)) ?_
  intro W base args ds gs before hval0 hW hcnd _
  have hval : ∀ (j : Nat) t v, Try.f8.params[j]? = some t → args[j]? = some v → Value.okWide Try.prog W .any base t v := hval0
  have hW' := hW
  obtain ⟨p, q, hA0, hV, rfl, hfz, hnd⟩ := hW
  have hA : DataW.TrodAll enc Try.prog W 0 (fun _ => true) true Try.f8.params.toList args.toList ds p := hA0
  rw [Try.params8] at hA hval
  obtain ⟨v0, vs0, d0, ds0, p0, q0, hargs, rfl, rfl, h0, r0⟩ := trodAll_cons hA
  obtain ⟨v1, vs1, d1, ds1, p1, q1, rfl, rfl, rfl, h1, r1⟩ := trodAll_cons r0
  obtain ⟨rfl, rfl, rfl⟩ := trodAll_nil r1
  obtain rfl : args = #[v0, v1] := by cases args; simp_all
  obtain ⟨rfl, rfl⟩ := trodVars_none hV
  obtain ⟨a0, len0, cap0, rfl⟩ := okWide_slice Try.underlying30 (hval 0 30 v0 rfl rfl)
  have k0 := h0
  have lt0 : ∀ x ∈ p0, x.block < W.heap.size := by obtain ⟨m, hm⟩ := k0; exact DataW.trod_lt m _ _ _ hm
  obtain ⟨z0, w0⟩ : ∃ zs, IsRow .i64 W a0 len0 cap0 zs := by
    obtain ⟨fuel, hf⟩ := h0
    rcases open_ints Try.underlying30 Try.underlying3 (by kernel_rfl) hf with ⟨hcs, _⟩ | ⟨x, l, c, zs, hcs, _, hl, hm, hz, _, hcell, hwz⟩
    · simp [Value.cells] at hcs
      obtain ⟨rfl, rfl, rfl⟩ := hcs
      exact ⟨[], .inl ⟨rfl, rfl, rfl, rfl⟩⟩
    · simp [Value.cells] at hcs
      obtain ⟨rfl, rfl, rfl⟩ := hcs
      exact ⟨zs, .inr ⟨_, rfl, hl, hm, by simpa using hz, hcell, hwz⟩⟩
  obtain ⟨a1, len1, cap1, rfl⟩ := okWide_slice Try.underlying30 (hval 1 30 v1 rfl rfl)
  have k1 := h1
  have lt1 : ∀ x ∈ p1, x.block < W.heap.size := by obtain ⟨m, hm⟩ := k1; exact DataW.trod_lt m _ _ _ hm
  obtain ⟨z1, w1⟩ : ∃ zs, IsRow .i64 W a1 len1 cap1 zs := by
    obtain ⟨fuel, hf⟩ := h1
    rcases open_ints Try.underlying30 Try.underlying3 (by kernel_rfl) hf with ⟨hcs, _⟩ | ⟨x, l, c, zs, hcs, _, hl, hm, hz, _, hcell, hwz⟩
    · simp [Value.cells] at hcs
      obtain ⟨rfl, rfl, rfl⟩ := hcs
      exact ⟨[], .inl ⟨rfl, rfl, rfl, rfl⟩⟩
    · simp [Value.cells] at hcs
      obtain ⟨rfl, rfl, rfl⟩ := hcs
      exact ⟨zs, .inr ⟨_, rfl, hl, hm, by simpa using hz, hcell, hwz⟩⟩
  clear hA0 hval0
  refine (walk a0 len0 cap0 z0 a1 len1 cap1 z1 W w0 w1).mono fun e W' ⟨he, bel⟩ => ?_
  subst he
  exact ⟨_, rfl, _, _, _, [], _, [], hW', trodAll_mk1 (shut_bool Try.underlying4 _), (trodAll_cons_mk (Below.trod laidOut (by kernel_rfl) (of_decide_eq_true (by kernel_rfl)) k0 bel lt0) (trodAll_cons_mk (Below.trod laidOut (by kernel_rfl) (of_decide_eq_true (by kernel_rfl)) k1 bel lt1) trodAll_mk0)), rfl, bel.frame _, fun h => by cases h⟩

theorem over : Rows.diskApartRow.holds Try.pinned (OpenSpec.ofChange Rows.diskApartSpec) :=
  OpenClaim.holds_of_wide 8 Try.f8 rfl rfl rfl rfl rfl rfl rfl ⟨rfl, rfl, rfl, rfl, rfl⟩ rfl rfl rfl rfl rfl (by kernel_rfl) Try.func8 (by kernel_rfl)
    (of_decide_eq_true (by kernel_rfl)) (by unfold Func.isWrapper; first | (rw [if_pos (by decide +kernel)]; kernel_rfl) | (rw [if_neg (by decide +kernel)]; exact ⟨rfl, rfl⟩))
    (fun os started H enc _ => lifted os started H enc)

/-- The statement. -/
theorem proved : Rows.DiskApartSaid := over
#print axioms proved
end Go.Proofs.Yteobkgajebbpaaa.diskApart

