/-
  The given statement DiskFuseSaid is proved: whatever the arguments are, the law returns true and leaves its input as it was. No conditions.
-/
import Derived.Test.YteobkgajebbpaaaDiskSums
import Derived.Test.YteobkgajebbpaaaOpen
import Derived.WalkKit
import Derived.ProofKit
import Derived.OpenShut
import Derived.ShutString
import Derived.ChangeOld
import Derived.Below
namespace Go.Proofs.Yteobkgajebbpaaa.diskFuse
open Go.ChangeShapes Go.WideShapes Go.ChangeAt Go.RowKit
open Go.ChangeMaps (open_string shut_string)
open Go.Proofs.Yteobkgajebbpaaa.mem Go.Proofs.Yteobkgajebbpaaa.base Go.Proofs.Yteobkgajebbpaaa.disk
set_option linter.unusedVariables false

theorem own : ownKnob Try.prog.godebug = none := by kernel_rfl
theorem laidOut : laidOutB Try.prog = true := by kernel_rfl

/-- The disk behind k acts, if n are done; h writes are held as far as that is asked. -/
structure St (n k h : Nat) (D : Dk) : Prop where
  ok : D.ok
  sz : D.n = 3
  flt : D.faults = List.replicate 3 false
  acts : D.acts = k
  on : k ≤ n → D.off = false ∧ D.fuse = (n : Int) - k ∧ D.held.length = h
  off : n < k → D.off = true

theorem st_new (n : Nat) : St n 0 0 ((Dk.new 3).fused n) := by
  refine ⟨(Dk.new_ok 3 (by omega) (by omega)).fused _, new_n 3, rfl, rfl, fun _ => ⟨rfl, ?_, rfl⟩, fun h => absurd h (by omega)⟩
  show (if (n : Int) < 0 then -1 else (n : Int)) = _
  rw [if_neg (by omega)]
  simp
theorem st_tick {n k h : Nat} {D : Dk} (s : St n k h D) : D.tick = decide (k < n) := by
  rcases Nat.lt_trichotomy k n with hk | hk | hk
  · obtain ⟨h1, h2, _⟩ := s.on (by omega)
    unfold Dk.tick
    rw [h1, h2, decide_eq_true hk]
    have : ((n : Int) - k == 0) = false := beq_eq_false_iff_ne.2 (by omega)
    rw [this]
    rfl
  · obtain ⟨h1, h2, _⟩ := s.on (by omega)
    unfold Dk.tick
    rw [h1, h2, decide_eq_false (by omega)]
    have : ((n : Int) - k == 0) = true := beq_iff_eq.2 (by omega)
    rw [this]
    rfl
  · unfold Dk.tick
    rw [s.off hk, decide_eq_false (by omega)]
    rfl
theorem st_ticked {n k h : Nat} {D : Dk} (s : St n k h D) : (k + 1 ≤ n → D.ticked.off = false ∧ D.ticked.fuse = (n : Int) - (k + 1 : Nat)) ∧ (n < k + 1 → D.ticked.off = true) := by
  have ht := st_tick s
  refine ⟨fun hk => ?_, fun hk => ?_⟩
  · obtain ⟨h1, h2, _⟩ := s.on (by omega)
    unfold Dk.ticked
    rw [ht, decide_eq_true (by omega), if_pos rfl]
    refine ⟨h1, ?_⟩
    show (if 0 < D.fuse then D.fuse - 1 else D.fuse) = _
    rw [if_pos (by omega)]
    omega
  · unfold Dk.ticked
    rw [ht, decide_eq_false (by omega)]
    rfl
theorem st_flush {n k h : Nat} {D : Dk} (s : St n k h D) : ∃ c D', D.flush = (c, D') ∧ St n (k + 1) 0 D' ∧ ((k < n ∧ c = 0) ∨ (n ≤ k ∧ c = 3)) := by
  have ht := st_tick s
  obtain ⟨g1, g2⟩ := st_ticked s
  obtain ⟨t1, t2, t3, t4⟩ := @ticked_same D
  by_cases hk : k < n
  · refine ⟨0, { D.ticked with safe := D.now, held := [] }, ?_, ⟨s.ok.flushed, ?_, ?_, ?_, fun h => ⟨(g1 h).1, (g1 h).2, rfl⟩, g2⟩, .inl ⟨hk, rfl⟩⟩
    · unfold Dk.flush
      rw [ht, decide_eq_true hk]
      rfl
    · exact ticked_n.trans s.sz
    · exact t3.trans s.flt
    · exact t4.trans (by rw [s.acts])
  · refine ⟨3, D.ticked, ?_, ⟨s.ok.ticked, ticked_n.trans s.sz, t3.trans s.flt, t4.trans (by rw [s.acts]), fun h => absurd h (by omega), g2⟩, .inr ⟨by omega, rfl⟩⟩
    unfold Dk.flush
    rw [ht, decide_eq_false hk]
    rfl
theorem st_write {n k h i : Nat} {D : Dk} {bs : List UInt8} (s : St n k h D) (hi : i < 3) (hl : bs.length = 64) : ∃ c D', D.write i bs = (c, D') ∧ St n (k + 1) (h + 1) D' ∧ ((k < n ∧ c = 0) ∨ (n ≤ k ∧ c = 3)) := by
  have ht := st_tick s
  obtain ⟨g1, g2⟩ := st_ticked s
  obtain ⟨t1, t2, t3, t4⟩ := @ticked_same D
  have hi' : i < D.n := by rw [s.sz]; exact hi
  by_cases hk : k < n
  · have hw := s.ok.wrote (has_of hi') hl
    rw [Int.toNat_natCast] at hw
    refine ⟨0, { D.ticked with held := D.held ++ [(i, bs)] }, write_eq hi' hl (by rw [ht, decide_eq_true hk]), ⟨hw, ?_, ?_, ?_, fun h => ⟨(g1 h).1, (g1 h).2, ?_⟩, g2⟩, .inl ⟨hk, rfl⟩⟩
    · exact ticked_n.trans s.sz
    · exact t3.trans s.flt
    · exact t4.trans (by rw [s.acts])
    · show (D.held ++ [(i, bs)]).length = _
      rw [List.length_append, (s.on (by omega)).2.2]
      rfl
  · exact ⟨3, D.ticked, write_eq_off hi' hl (by rw [ht, decide_eq_false hk]), ⟨s.ok.ticked, ticked_n.trans s.sz, t3.trans s.flt, t4.trans (by rw [s.acts]), fun h => absurd h (by omega), g2⟩, .inr ⟨by omega, rfl⟩⟩
theorem st_read {n k h : Nat} {D : Dk} (s : St n k h D) : ∃ c bs, D.read 0 = (c, bs) ∧ ((k ≤ n ∧ c = 0) ∨ (n < k ∧ c = 3)) := by
  by_cases hk : k ≤ n
  · refine ⟨0, sec D.now 0, ?_, .inl ⟨hk, rfl⟩⟩
    have := read_eq (D := D) (i := 0) (by rw [s.sz]; omega) (s.on hk).1
    rw [s.flt, rep_false] at this
    exact this
  · refine ⟨3, [], ?_, .inr ⟨by omega, rfl⟩⟩
    unfold Dk.read
    have := has_of (D := D) (i := 0) (by rw [s.sz]; omega)
    rw [show D.has 0 = true from this, s.off (by omega)]
    rfl
theorem st_crash {n k h : Nat} {D : Dk} (s : St n k h D) (fx : List UInt8) (hx : fx.length = 64) : ∃ bs D', (D.crash []).read 0 = (0, bs) ∧ bs.length = 64 ∧ (D.crash []).write 0 fx = (0, D') := by
  have hok := s.ok.crashed []
  have hn : (D.crash []).n = 3 := s.sz
  refine ⟨sec (D.crash []).now 0, _, ?_, sec_length _ 0 3 (by rw [hok.now, hn]) (by omega), write_eq (i := 0) (by rw [hn]; omega) hx rfl⟩
  have := read_eq (D := D.crash []) (i := 0) (by rw [hn]; omega) rfl
  have hf : (D.crash []).faults = List.replicate 3 false := s.flt
  rw [hf, rep_false] at this
  exact this

set_option maxRecDepth 100000 in
set_option maxHeartbeats 1000000 in
theorem walk_out (a0 : Int) (a1 : Option Addr) (len1 cap1 : Nat) (w : World) (h : a0 < 0 ∨ (0 ≤ a0 ∧ 100 < a0) ∨ (0 ≤ a0 ∧ a0 ≤ 100 ∧ 100 < len1)) :
    Calls Try.prog 6 #[.int .i64 a0, .slice a1 len1 cap1] w fun e w' => e = .returned (.bool true) ∧ Below w.heap.size w w' := by
  rcases h with h | h | h
  all_goals
    go_enter Try.func6, Try.ntmps6
    go_wp2_with (go_at_call 9; refine (awake_any _).mono ?_; rintro e w' ⟨rfl, hb⟩)
    all_goals go_ret
    all_goals exact ⟨rfl, hb.below (by simp)⟩

set_option maxRecDepth 100000 in
set_option maxHeartbeats 1000000 in
theorem walk_in (n : Nat) (a1 : Option Addr) (len1 cap1 : Nat) (l : List Int) (w : World) (hn : n ≤ 100) (hv : Vals w [] a1 (l.map I)) (hl : l.length = len1) (hm : len1 ≤ 100) :
    Calls Try.prog 6 #[.int .i64 n, .slice a1 len1 cap1] w fun e w' => e = .returned (.bool true) ∧ Below w.heap.size w w' := by
  have HV := hide hv
  have HL := hide hl
  clear hv hl
  go_enter Try.func6, Try.ntmps6
  go_wp2_with fail
  refine (mine_new 3 3 w _ rfl (Kept.refl _ _) (by omega) (by omega)).mono ?_
  rintro e w1 ⟨F, p, rfl, hmi⟩
  have HM := hide hmi
  clear hmi
  go_wp2_with fail
  refine (mine_fuse w F p _ n _ HM.out (by omega)).mono ?_
  rintro e w2 ⟨rfl, hmi⟩
  have HM2 := hide hmi
  have ST := hide (st_new n)
  clear hmi HM
  generalize (Dk.new 3).fused n = D0 at *
  go_wp2
  go_loopw [7, 8] (fun h i wr => ∃ (k q : Nat) (F : List Nat) (D : Dk), k ≤ len1 ∧ q ≤ k ∧ i = .int .i64 k ∧ h = .int .i64 q ∧ Hid (St n k q D) ∧ Hid (Mine w wr F p D)) (fun h i wr => len1 - (intOf i).toNat)
  case atStart => exact ⟨0, 0, F, D0, by omega, by omega, rfl, rfl, ST, HM2⟩
  case round =>
    obtain ⟨k, q, F, D, hk, hq, rfl, rfl, HS, HMR⟩ := hrel
    clear ST HM2
    by_cases hlt : k < len1
    · have hkl : k < l.length := by rw [HL.out]; exact hlt
      obtain ⟨ad, rfl, hbb, hc0⟩ := HV.out k (I l[k]) (by rw [List.getElem?_map, List.getElem?_eq_getElem hkl]; rfl)
      unfold I at hc0
      generalize l[k] = x at hc0
      have hc := HMR.out.2.2.cell hc0 (by simp)
      have HC0 := hide hc0
      clear hc0
      have ha3 := and3 x
      obtain ⟨y, hy, hy2⟩ : ∃ y : Nat, x % 2 = y ∧ y < 2 := ⟨(x % 2).toNat, by omega, by omega⟩
      have ha1 := (and1 x).trans hy
      have hact : D.acts < 1000000 := by have := HS.out.acts; omega
      by_cases hx : x % 4 = 0
      · obtain ⟨c, D', hfl, hs', hcc⟩ := st_flush HS.out
        have E1 := hide hfl
        have HS2 := hide hs'
        have hx' : (x % 4 == 0) = true := beq_iff_eq.2 hx
        clear hfl hs' hx
        go_wp2_with fail
        refine (mine_flush w F p D c D' _ HMR.out hact E1.out).mono ?_
        rintro e w3 ⟨rfl, F3, hm3⟩
        have HM3 := hide hm3
        clear hm3
        rcases hcc with ⟨hkn, rfl⟩ | ⟨hkn, rfl⟩
        · have hof : D'.off = false := (HS2.out.on (by omega)).1
          have hhe : (D'.held.length : Int) = 0 := by rw [(HS2.out.on (by omega)).2.2]; omega
          have HOF := hide hof
          have HHE := hide hhe
          clear hof hhe
          have hkn' : (k : Int) < n := by omega
          go_wp2_with fail
          refine (mine_off w F3 p D' _ HM3.out false HOF.out).mono ?_
          rintro e w4 ⟨rfl, rfl⟩
          go_wp2_with fail
          refine (mine_actsI w F3 p D' _ HM3.out ((k : Int) + 1) (by rw [HS2.out.acts]; omega)).mono ?_
          rintro e w4 ⟨rfl, rfl⟩
          go_wp2_with fail
          refine (mine_heldI w F3 p D' _ HM3.out (0) HHE.out).mono ?_
          rintro e w4 ⟨rfl, rfl⟩
          go_wp2
          exact ⟨⟨k + 1, 0, F3, D', by omega, by omega, by go_num, by go_num, HS2, HM3⟩, by simp [intOf]; omega⟩
        · have hof : D'.off = true := HS2.out.off (by omega)
          have HOF := hide hof
          clear hof
          have hkn' : (n : Int) ≤ k := by omega
          go_wp2_with fail
          refine (mine_off w F3 p D' _ HM3.out true HOF.out).mono ?_
          rintro e w4 ⟨rfl, rfl⟩
          go_wp2_with fail
          refine (mine_actsI w F3 p D' _ HM3.out ((k : Int) + 1) (by rw [HS2.out.acts]; omega)).mono ?_
          rintro e w4 ⟨rfl, rfl⟩
          go_wp2
          exact ⟨⟨k + 1, 0, F3, D', by omega, by omega, by go_num, by go_num, HS2, HM3⟩, by simp [intOf]; omega⟩
      · have hx' : (x % 4 == 0) = false := beq_eq_false_iff_ne.2 hx
        obtain ⟨c, D', hfl, hs', hcc⟩ := st_write (i := y) (bs := fillOf (k : Int)) HS.out (by omega) (fillOf_length _)
        have E1 := hide hfl
        have HS2 := hide hs'
        clear hfl hs' hx hy
        have gk1 : (0 : Int) ≤ k := by omega
        have gk2 : (k : Int) < len1 := by omega
        go_wp2
        go_region_held3 (fun W => W.cell? (ad.add k) = some (.int .i64 x))
          (first | exact hc | assumption)
          (first
            | (go_at_call 13; refine (mine_fill w F p D k _ HMR.out.drew).mono ?_; rintro e w3 ⟨g3, rfl, hm3, _, hv3, hk3⟩; have s3 := hk3.cell (p := ad.add k) (show World.cell? _ (ad.add k) = _ from hc) (by simp); have HM3 := hide hm3; have HV3 := hide hv3; clear hm3 hv3 hk3)
            | (go_at_call 12; refine (mine_write w F p D y _ 64 64 (fillOf (k : Int)) c D' _ HM3.out hact HV3.out (fillOf_length _) E1.out).mono ?_; rintro e w4 ⟨rfl, F4, hm4⟩; have s4 := hm4.2.2.cell HC0.out (by simp); have HM4 := hide hm4; clear hm4))
        all_goals
          rcases hcc with ⟨hkn, rfl⟩ | ⟨hkn, rfl⟩
          · have hof : D'.off = false := (HS2.out.on (by omega)).1
            have hhe : (D'.held.length : Int) = (q : Int) + 1 := by rw [(HS2.out.on (by omega)).2.2]; omega
            have HOF := hide hof
            have HHE := hide hhe
            clear hof hhe
            have hkn' : (k : Int) < n := by omega
            go_wp2_with fail
            refine (mine_off w F4 p D' _ HM4.out false HOF.out).mono ?_
            rintro e w5 ⟨rfl, rfl⟩
            go_wp2_with fail
            refine (mine_actsI w F4 p D' _ HM4.out ((k : Int) + 1) (by rw [HS2.out.acts]; omega)).mono ?_
            rintro e w5 ⟨rfl, rfl⟩
            go_wp2_with fail
            refine (mine_heldI w F4 p D' _ HM4.out ((q : Int) + 1) HHE.out).mono ?_
            rintro e w5 ⟨rfl, rfl⟩
            go_wp2
            exact ⟨⟨k + 1, q + 1, F4, D', by omega, by omega, by go_num, by go_num, HS2, HM4⟩, by simp [intOf]; omega⟩
          · have hof : D'.off = true := HS2.out.off (by omega)
            have HOF := hide hof
            clear hof
            have hkn' : (n : Int) ≤ k := by omega
            go_wp2_with fail
            refine (mine_off w F4 p D' _ HM4.out true HOF.out).mono ?_
            rintro e w5 ⟨rfl, rfl⟩
            go_wp2_with fail
            refine (mine_actsI w F4 p D' _ HM4.out ((k : Int) + 1) (by rw [HS2.out.acts]; omega)).mono ?_
            rintro e w5 ⟨rfl, rfl⟩
            go_wp2
            exact ⟨⟨k + 1, q + 1, F4, D', by omega, by omega, by go_num, by go_num, HS2, HM4⟩, by simp [intOf]; omega⟩
    · obtain rfl : k = len1 := by omega
      obtain ⟨c, bs, hr, hcc⟩ := st_read HS.out
      obtain ⟨bz, D', hr2, hbz, hw2⟩ := st_crash HS.out (fillOf 1) (fillOf_length 1)
      have hact : D.acts ≤ 1000000 := by have := HS.out.acts; omega
      have E1 := hide hr
      have E2 := hide hr2
      have E3 := hide hbz
      have E4 := hide hw2
      clear hr hr2 hbz hw2
      go_wp2_with fail
      refine (mine_read w F p D 0 c bs bs.length _ HMR.out E1.out rfl).mono ?_
      rintro e w3 ⟨A3, c3, rfl, _, hm3, _⟩
      have HM3 := hide hm3
      clear hm3
      generalize bs.length = bl at *
      go_wp2_with fail
      refine (mine_crash w F p D none 0 0 [] _ HM3.out hact (Vals.nil _ _ _) rfl).mono ?_
      rintro e w4 ⟨F4, q4, rfl, hm4, _, _, _⟩
      have HM4 := hide hm4
      clear hm4
      go_wp2_with fail
      refine (mine_read w F4 q4 _ 0 0 bz 64 _ HM4.out E2.out E3.out).mono ?_
      rintro e w5 ⟨A5, c5, rfl, _, hm5, _⟩
      have HM5 := hide hm5
      clear hm5
      rcases hcc with ⟨hkn, rfl⟩ | ⟨hkn, rfl⟩
      all_goals
        go_wp2_with fail
        refine (mine_fill w F4 q4 _ 1 _ HM5.out).mono ?_
        rintro e w6 ⟨g6, rfl, hm6, _, hv6, _⟩
        have HM6 := hide hm6
        have HV6 := hide hv6
        clear hm6 hv6
        go_wp2_with fail
        refine (mine_write w F4 q4 _ 0 _ 64 64 (fillOf 1) 0 D' _ HM6.out (by simp [Dk.crash]) HV6.out (fillOf_length 1) E4.out).mono ?_
        rintro e w7 ⟨rfl, F7, hm7⟩
        have HM7 := hide hm7
        clear hm7
        go_wp2_with fail
        refine (awake_any _).mono ?_
        rintro e w8 ⟨rfl, hk8⟩
        have HM8 := hide (HM7.out.kept hk8)
        clear hk8
        go_wp2
        go_ret
        exact ⟨by first | rfl | exact congrArg (fun q => Ending.returned (.bool q)) (show (!decide (k ≤ n)) = true by rw [decide_eq_false (by omega)]; rfl), HM8.out.below⟩

theorem walk (a0 : Int) (a1 : Option Addr) (len1 cap1 : Nat) (z1 : List Int) (w : World) (w1 : IsRow .i64 w a1 len1 cap1 z1) :
    Calls Try.prog 6 #[.int .i64 a0, .slice a1 len1 cap1] w fun e w' => e = .returned (.bool true) ∧ Below w.heap.size w w' := by
  obtain ⟨l, hl, _, hv, _⟩ := w1.ints
  by_cases h : 0 ≤ a0 ∧ a0 ≤ 100 ∧ len1 ≤ 100
  · obtain ⟨n, rfl⟩ := Int.eq_ofNat_of_zero_le h.1
    exact walk_in n a1 len1 cap1 l w (by omega) hv hl h.2.2
  · exact walk_out a0 a1 len1 cap1 w (by omega)

/-! ### the row's step, as the guide's skeleton has it -/
set_option maxRecDepth 100000 in
theorem lifted (os : Os) (started : os.Started) (H : Type) (enc : TypeId × Value → H) :
    ReturnsInHanded {} Try.checked os 6 .any (Rows.diskFuseSpec.pre6 enc Try.prog Try.f6 Rows.diskFuseRow.domain false) (Rows.diskFuseSpec.post enc Try.prog Try.f6 false true false false) := by
  refine returnsInHanded_of_change (C := Try.checked) own started (by kernel_rfl) Try.func6
    (ChangeSpec.witness6 (enc := enc) (C := Try.checked) false ⟨#[], #[.int .i64 0, .slice none 0 0], []⟩ 8 (by kernel_rfl) (by kernel_rfl) (by kernel_rfl) (by kernel_rfl)) ?_
  intro W base args ds gs before hval0 hW hcnd _
  have hval : ∀ (j : Nat) t v, Try.f6.params[j]? = some t → args[j]? = some v → Value.okWide Try.prog W .any base t v := hval0
  have hW' := hW
  obtain ⟨p, q, hA0, hV, rfl, hfz, hnd⟩ := hW
  have hA : DataW.TrodAll enc Try.prog W 0 (fun _ => true) true Try.f6.params.toList args.toList ds p := hA0
  rw [Try.params6] at hA hval
  obtain ⟨v0, vs0, d0, ds0, p0, q0, hargs, rfl, rfl, h0, r0⟩ := trodAll_cons hA
  obtain ⟨v1, vs1, d1, ds1, p1, q1, rfl, rfl, rfl, h1, r1⟩ := trodAll_cons r0
  obtain ⟨rfl, rfl, rfl⟩ := trodAll_nil r1
  obtain rfl : args = #[v0, v1] := by cases args; simp_all
  obtain ⟨rfl, rfl⟩ := trodVars_none hV
  obtain ⟨a0, rfl, rfl, rfl, w0⟩ := open_int Try.underlying3 (hval 0 3 v0 rfl rfl) h0
  obtain ⟨a1, len1, cap1, rfl⟩ := okWide_slice Try.underlying30 (hval 1 30 v1 rfl rfl)
  have k1 := h1
  have lt1 : ∀ x ∈ p1, x.block < W.heap.size := by obtain ⟨m, hm⟩ := k1; exact DataW.trod_lt m _ _ _ hm
  obtain ⟨z1, w1⟩ : ∃ zs, IsRow .i64 W a1 len1 cap1 zs := by
    obtain ⟨fuel, hf⟩ := h1
    rcases open_ints Try.underlying30 Try.underlying3 (by kernel_rfl) hf with ⟨hcs, _⟩ | ⟨x, l, c, zs, hcs, _, hl, hm, hz, _, hcell, hwz⟩
    · simp [Value.cells] at hcs
      obtain ⟨rfl, rfl, rfl⟩ := hcs
      exact ⟨[], .inl ⟨rfl, rfl, rfl, rfl⟩⟩
    · simp [Value.cells] at hcs
      obtain ⟨rfl, rfl, rfl⟩ := hcs
      exact ⟨zs, .inr ⟨_, rfl, hl, hm, by simpa using hz, hcell, hwz⟩⟩
  clear hA0 hval0
  refine (walk a0 a1 len1 cap1 z1 W w1).mono fun e W' ⟨he, bel⟩ => ?_
  subst he
  exact ⟨_, rfl, _, _, _, [], _, [], hW', trodAll_mk1 (shut_bool Try.underlying4 _), (trodAll_cons_mk (shut_int Try.underlying3 w0) (trodAll_cons_mk (Below.trod laidOut (by kernel_rfl) (of_decide_eq_true (by kernel_rfl)) k1 bel lt1) trodAll_mk0)), rfl, bel.frame _, fun h => by cases h⟩

theorem over : Rows.diskFuseRow.holds Try.pinned (OpenSpec.ofChange Rows.diskFuseSpec) :=
  OpenClaim.holds_of_wide 6 Try.f6 rfl rfl rfl rfl rfl rfl rfl ⟨rfl, rfl, rfl, rfl, rfl⟩ rfl rfl rfl rfl rfl (by kernel_rfl) Try.func6 (by kernel_rfl)
    (of_decide_eq_true (by kernel_rfl)) (by unfold Func.isWrapper; first | (rw [if_pos (by decide +kernel)]; kernel_rfl) | (rw [if_neg (by decide +kernel)]; exact ⟨rfl, rfl⟩))
    (fun os started H enc _ => lifted os started H enc)

/-- The statement. -/
theorem proved : Rows.DiskFuseSaid := over
#print axioms proved
end Go.Proofs.Yteobkgajebbpaaa.diskFuse

