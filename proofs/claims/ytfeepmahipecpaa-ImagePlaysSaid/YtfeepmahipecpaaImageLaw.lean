/- The laws' refs, dirty, like; Pending; the laws' awake. -/
import Derived.Test.YtfeepmahipecpaaImageTold
import Derived.Test.YtfeepmahipecpaaPageAlike
namespace Go.Proofs.Ytfeepmahipecpaa.im
set_option linter.unusedSimpArgs false
set_option linter.unusedVariables false
open Go.RowKit Go.Proofs.Ytfeepmahipecpaa.mem Go.Proofs.Ytfeepmahipecpaa.base Go.Proofs.Ytfeepmahipecpaa.pd Go.Proofs.Ytfeepmahipecpaa.owns
attribute [local go_sem] Oper.semAt_some
set_option maxRecDepth 100000 in
set_option maxHeartbeats 4000000 in
theorem refs_seq_nil (w : World) (Bn : Nat) (hb : Blk w Bn 24 #[.pointer none]) :
    SeqT Try.prog 73 #[.pointer (some ⟨Bn, 0, none⟩)] two [] [Bn] w := by
  intro lp J Jx C0 W hk hJ hJx hB hR hY h0
  have HJ := hide hJ
  have HB := hide hB
  have H0 := hide h0
  have HC0 := hide (hB _ _ _ h0)
  have cb : (W.alloc (.cells #[.func (.yield lp) #[] #[]] 72)).cell? ⟨Bn, 0, none⟩ = some (.pointer none) := ((hk.blk hb (by simp)).alloc _).cell 0
  have cb2 : ((W.alloc (.cells #[.func (.yield lp) #[] #[]] 72)).alloc (.cells #[.pointer none] 57)).cell? ⟨Bn, 0, none⟩ = some (.pointer none) := (((hk.blk hb (by simp)).alloc _).alloc _).cell 0
  clear hk hJ hJx hB hR hY h0 hb
  refine wide_pos fun n h1 => ?_
  refine callsIn_of_wp_marks Try.func73 rfl trivial ?_ rfl
  simp only [Try.ntmps73, List.size_toArray, List.length_cons, List.length_nil, Nat.reduceAdd, Nat.reduceSub, Array.replicate_succ, Array.replicate_zero, List.push_toArray, List.append_toArray, List.nil_append, List.cons_append]
  obtain ⟨z, hz⟩ : ∃ z, W.heap.size = z := ⟨_, rfl⟩
  have HZ := hide hz
  gi_wp2_with fail
  refine ⟨trivial, ?_⟩
  refine (callsIn_wide.2 (table_nil _ _)).mono ?_
  rintro e w' ⟨rfl, rfl⟩
  gi_wp2_with fail
  refine ⟨trivial, ?_⟩
  refine (callsIn_wide.2 (table_nil _ _)).mono ?_
  rintro e w' ⟨rfl, rfl⟩
  gi_wp2_with fail
  refine ⟨trivial, ?_⟩
  refine (callsIn_wide.2 (allOf_int _ _)).mono ?_
  rintro e w' ⟨rfl, rfl⟩
  gi_wp2_with fail
  have k1 : Kept [] W (((W.alloc (.cells #[.func (.yield lp) #[] #[]] 72)).alloc (.cells #[.pointer none] 57)).alloc (.cells #[.pointer none] 57)) := (((Kept.refl [] W).alloc _).alloc _).alloc _
  have B2 := Blk.new ((W.alloc (.cells #[.func (.yield lp) #[] #[]] 72)).alloc (.cells #[.pointer none] 57)) 57 #[.pointer none]
  have hsA : (((W.alloc (.cells #[.func (.yield lp) #[] #[]] 72)).alloc (.cells #[.pointer none] 57)).alloc (.cells #[.pointer none] 57)).heap.size = z + 1 + 1 + 1 := by simp [hz]
  simp only [World.size_alloc] at B2
  rw [hz] at B2
  try simp only [World.size_alloc, hz]
  generalize (((W.alloc (.cells #[.func (.yield lp) #[] #[]] 72)).alloc (.cells #[.pointer none] 57)).alloc (.cells #[.pointer none] 57)) = wA at k1 B2 hsA ⊢
  have HK1 := hide k1
  have HB2 := hide B2
  have HSA := hide hsA
  clear k1 B2 hsA hz cb cb2
  refine range_nest (w := wA) h1 (gf := 76) (lb := #[.pointer (some ⟨z + 1 + 1, 0, none⟩)]) rfl (enters_of Try.func76 (by kernel_rfl) rfl) two (fun _ => rfl) [] C0
    (InN (rf []) J C0 W []) (fun _ _ _ _ => False)
    (InN.steady HJ.out (by have := HSA.out; have := HZ.out; omega) (by simp)) (fun _ _ _ _ _ _ h _ _ => h) (InN.bound HB.out) [z + 1 + 1] ?hR (all_seq_nil wA (z + 1 + 1) HB2.out) ?hC0 ?h0 ?hround ?hdone (fun _ _ _ _ _ _ _ h _ _ => h.elim)
  case hR =>
    have h2 := HSA.out
    have h3 := HZ.out
    intro y hy
    simp at hy
    subst hy
    exact ⟨fun hm => by have := HC0.out _ hm; omega, by omega⟩
  case hC0 =>
    intro y hy
    have h1 := HC0.out y hy
    have h2 := HSA.out
    have h3 := HZ.out
    omega
  case h0 =>
    intro W1 hk hs
    have hkk := HK1.out.trans hk (S := []) (by simp)
    exact ⟨HJ.out _ _ _ _ [] H0.out hkk (by simp), fun y hy => .inl hy, hkk.mono (by simp), fun b hb => by cases hb⟩
  case hround =>
    rintro lp2 pre C x W1 Kk hn hpre hD hD1 hWs hKK
    have := hpre.length_le
    simp at this
  case hdone =>
    rintro D2 C W1 hD2 hn hDC hK
    have HN := hide hn
    clear hn
    gi_wp2
    refine ⟨by simp, .inl ⟨_, _, rfl, run_takeDeferred hK, ?_⟩⟩
    exact ⟨_, results_none rfl _ _ _, ⟨_, rfl⟩, C, .inl (HJ.out _ _ _ _ [D2] HN.out.1 (kept_putO _ _ _) (fun y hy => by have := HSA.out; have := HZ.out; simp at hy; subst hy; exact ⟨by omega, hDC⟩))⟩

theorem rfOf_length (os : List Int) (x : Nat × Int) : (rfOf os x).length ≤ 2 := by
  unfold rfOf
  rw [List.length_append]
  split <;> split <;> simp
theorem rf_length (os : List Int) : ∀ pre : List (Nat × Int), (rf os pre).length ≤ 2 * pre.length
  | [] => by simp [rf]
  | x :: pre => by
    have h1 := rf_length os pre
    have h2 := rfOf_length os x
    have h3 : rf os (x :: pre) = rfOf os x ++ rf os pre := by simp [rf]
    rw [h3, List.length_append, List.length_cons]
    omega
theorem refsL_length {w : World} {X : Ib} {M : Im} (h : IAt w X M) : (refsL M).length ≤ 128 := by
  have h1 := rf_length M.o.l (placed M.b.l M.b.l.length)
  rw [placed_length] at h1
  have := h.small
  unfold refsL
  omega
section
variable {w : World} {X : Ib} {M : Im}
theorem refs_any (h : IAt w X M) (most : Int) (hm : 128 ≤ most) :
    Calls Try.prog 28 #[.pointer (some ⟨X.m, 0, none⟩), .int .i64 most] w fun e w' => ∃ v, e = .returned v ∧ w'.ownsRow w.heap.size 53 2 v (refsL M).length (cellsR (refsL M)) ∧ Kept [] w w' := by
  have h1 := refsL_length h
  exact callsIn_wide.1 (refs_in 3 (by decide) none _ w most (refsL M) X.all (by omega) (by omega) h.lt (fun W hk => refs_fn _ W) (fun W hk hb => refs_seq W (w.heap.size + 1) X M (h.keep hk) hb))
theorem refs_none (w : World) :
    Calls Try.prog 28 #[.pointer none, .int .i64 2] w fun e w' => ∃ v, e = .returned v ∧ w'.ownsRow w.heap.size 53 2 v 0 (cellsR []) ∧ Kept [] w w' :=
  callsIn_wide.1 (refs_in 3 (by decide) none none w 2 [] [] (by simp) (by simp) (by simp) (fun W hk => refs_fn _ W) (fun W hk hb => refs_seq_nil W (w.heap.size + 1) hb))
theorem idirty_fn (h : IAt w X M) (ov : Bool) :
    Calls Try.prog 60 #[.pointer (some ⟨X.m, 0, none⟩), .bool ov] w fun e w' => e = .returned (.func (.func 79) #[] #[.pointer (some ⟨w.heap.size, 0, none⟩)]) ∧ w' = w.alloc (.cells #[.pointer (some ⟨X.tp ov, 0, none⟩)] 57) := by
  have HT := hide (table_any h ov)
  clear h
  go_enter Try.func60, Try.ntmps60
  go_wp2_with fail
  refine HT.out.mono ?_
  rintro e w' ⟨rfl, rfl⟩
  go_wp2_with fail
  refine (dirt_int _ _).mono ?_
  rintro e w' ⟨rfl, rfl⟩
  go_wp2
  go_ret
  exact ⟨rfl, rfl⟩
theorem IAt.dlen (h : IAt w X M) (ov : Bool) : (M.tb ov).d.length = (M.b.l.length + 15 - 1) / 15 := by
  have := (h.tab ov).pages
  rwa [List.length_map, h.tlen] at this
def Im.dirt (M : Im) (ov : Bool) : List Nat := marked (M.tb ov).d (M.tb ov).d.length
theorem dirt_length (h : IAt w X M) (ov : Bool) : (M.dirt ov).length ≤ 5 := by
  have h1 := marked_length (M.tb ov).d (M.tb ov).d.length
  have h2 := h.dlen ov
  have h3 := h.small
  unfold Im.dirt
  omega
theorem dirty_any (h : IAt w X M) (ov : Bool) (most : Int) (hm : 9 ≤ most) :
    Calls Try.prog 32 #[.pointer (some ⟨X.m, 0, none⟩), .bool ov, .int .i64 most] w fun e w' => ∃ v, e = .returned v ∧ w'.ownsRow w.heap.size 3 1 v (M.dirt ov).length (cellsN (M.dirt ov)) ∧ Kept [] w w' := by
  have h1 := dirt_length h ov
  obtain ⟨m1, m2, m3⟩ := X.tmem ov
  exact callsIn_wide.1 (dirty_in 3 (by decide) _ ov (some ⟨X.tp ov, 0, none⟩) w most (M.dirt ov) [X.tp ov, X.td ov] (by omega) (by omega) (fun y hy => by simp at hy; rcases hy with rfl | rfl; exact h.lt _ m1; exact h.lt _ m3) (fun W hk => idirty_fn (h.keep hk) ov) (fun W hk hb => dirt_seq W (w.heap.size + 1) (X.tp ov) (X.tv ov) (X.td ov) (M.tb ov) ((h.keep hk).tab ov) hb))
/-- What Pending's rounds keep. -/
def CntN (w0 : World) (b0 : Nat) (pre : List (Nat × Int)) (C : List Nat) (W : World) : Prop := C = [b0] ∧ Blk W b0 3 #[.int .i64 (pre.length : Int)] ∧ Kept [] w0 W
set_option maxRecDepth 100000 in
set_option maxHeartbeats 4000000 in
theorem pending_in (n : Nat) (h1 : 1 ≤ n) (h : IAt w X M) :
    CallsIn Fence.wide n Try.prog 31 #[.pointer (some ⟨X.m, 0, none⟩)] w fun e w' => e = .returned (.int .i64 (pendL M.o.l).length) ∧ Kept [] w w' := by
  have H := hide h
  have hsm := h.small
  have hpl := pendL_length M.o.l
  have hol := h.len
  have HLT := hide h.lt
  clear h
  refine callsIn_of_wp_marks Try.func31 rfl trivial ?_ rfl
  simp only [Try.ntmps31, List.size_toArray, List.length_cons, List.length_nil, Nat.reduceAdd, Nat.reduceSub, Array.replicate_succ, Array.replicate_zero, List.push_toArray, List.append_toArray, List.nil_append, List.cons_append]
  obtain ⟨b0, hb0⟩ : ∃ b0, w.heap.size = b0 := ⟨_, rfl⟩
  have HB0 := hide hb0
  gi_wp2_with fail
  refine ⟨trivial, ?_⟩
  refine (callsIn_wide.2 (pending_fn _ _)).mono ?_
  rintro e w' ⟨rfl, rfl⟩
  gi_wp2_with fail
  have k1 : Kept [] w ((w.alloc (.cells #[.int .i64 0] 3)).alloc (.cells #[.pointer (some ⟨X.m, 0, none⟩)] 24)) := ((Kept.refl [] w).alloc _).alloc _
  have B0 := (Blk.new w 3 #[.int .i64 0]).alloc (.cells #[.pointer (some ⟨X.m, 0, none⟩)] 24)
  have B1 := Blk.new (w.alloc (.cells #[.int .i64 0] 3)) 24 #[.pointer (some ⟨X.m, 0, none⟩)]
  have hsA : ((w.alloc (.cells #[.int .i64 0] 3)).alloc (.cells #[.pointer (some ⟨X.m, 0, none⟩)] 24)).heap.size = b0 + 1 + 1 := by simp [hb0]
  simp only [World.size_alloc] at B1
  rw [hb0] at B0 B1
  try simp only [World.size_alloc, hb0]
  generalize ((w.alloc (.cells #[.int .i64 0] 3)).alloc (.cells #[.pointer (some ⟨X.m, 0, none⟩)] 24)) = wA at k1 B0 B1 hsA ⊢
  have HK1 := hide k1
  have HBB := hide B0
  have HB1 := hide B1
  have HSA := hide hsA
  have HI := hide (H.out.keep k1)
  clear k1 B0 B1 hsA hb0
  refine range_nest (w := wA) h1 (gf := 66) (lb := #[.pointer (some ⟨b0 + 1, 0, none⟩)]) rfl (enters_of Try.func66 (by kernel_rfl) rfl) two (fun _ => rfl) (pendL M.o.l) [b0] (CntN w b0) (fun _ _ _ _ => False)
    ?hN (fun _ _ _ _ _ _ h _ _ => h) ?hC [b0 + 1, X.m, X.q, X.U] ?hR (pend_seq wA (b0 + 1) X M HI.out HB1.out) ?hC0 ?h0 ?hround ?hdone (fun _ _ _ _ _ _ _ h _ _ => h.elim)
  case hN =>
    rintro pre C W W' S ⟨rfl, g1, g2⟩ k hS
    have h2 := HSA.out
    have h3 := HB0.out
    exact ⟨rfl, k.blk g1 (fun hm => by have := (hS _ hm).1; omega), g2.trans k (fun y hy => .inr (by have := (hS y hy).1; omega))⟩
  case hC =>
    rintro pre C W ⟨rfl, g1, g2⟩ y hy
    simp at hy
    subst hy
    exact g1.lt
  case hR =>
    have h2 := HSA.out
    have h3 := HB0.out
    obtain ⟨m1, m2, m3, m4, m5, m6, m7⟩ := X.mem
    have h4 := HLT.out _ m1
    have h5 := HLT.out _ m5
    have h6 := HLT.out _ m6
    intro y hy
    simp only [List.mem_cons, List.not_mem_nil, or_false] at hy
    rcases hy with rfl | rfl | rfl | rfl <;> exact ⟨by first | (simp; done) | (simp; omega), by omega⟩
  case hC0 =>
    have h2 := HSA.out
    simp
    omega
  case h0 =>
    intro W hk hs
    exact ⟨rfl, hk.blk HBB.out (by simp), HK1.out.trans hk (by simp)⟩
  case hround =>
    rintro lp pre C x W Kk hn hpre hD hD1 hWs hKK
    have HKK := hide hKK
    clear hKK
    unfold two
    gi_wp2
    refine HKK.out _ _ (Kept.refl [] W) ?_
    intro W2 hk2
    obtain ⟨rfl, g1, g2⟩ := hn
    have hlen : pre.length < 64 := by
      have h2 := hpre.length_le
      simp at h2
      omega
    have B := hk2.blk g1 (fun hm => hD1 (by simp at hm ⊢; omega))
    have HB := hide B
    have HK2 := hide (g2.trans hk2 (fun y hy => .inr (by have h2 := HSA.out; have h3 := HB0.out; simp at hy; omega)))
    have cb := B.cell 0
    have fb := B.frozen 0
    clear g1 g2 hk2 B hpre hD hD1 hWs HKK
    gi_wp2
    refine ⟨[b0], fun y hy => .inl hy, (Kept.refl [b0] W2).set_ (.inl (by simp)) 0 _, rfl, ?_, HK2.out.trans ((Kept.refl [b0] W2).set_ (.inl (by simp)) 0 _) (fun y hy => .inr (by have h3 := HB0.out; simp at hy; omega))⟩
    have := HB.out.set_ 0 (.int .i64 ((pre.length : Int) + 1))
    rw [List.length_append]
    simpa using this
  case hdone =>
    rintro D2 C W hD2 ⟨rfl, g1, g2⟩ hDC hK
    have cb := g1.cell 0
    have HK2 := hide g2
    clear g1 g2
    gi_wp2
    refine ⟨by simp, .inl ⟨_, _, rfl, run_takeDeferred hK, ?_⟩⟩
    exact ⟨_, results_tmp rfl _ _ _, rfl, HK2.out.trans (kept_putO W D2 (.deferred none)) (fun y hy => .inr (by have h2 := HSA.out; have h3 := HB0.out; simp at hy; omega))⟩
theorem pending_any (h : IAt w X M) :
    Calls Try.prog 31 #[.pointer (some ⟨X.m, 0, none⟩)] w fun e w' => e = .returned (.int .i64 (pendL M.o.l).length) ∧ Kept [] w w' := callsIn_wide.1 (pending_in 3 (by decide) h)
end

theorem neq_ref (x y : Int) (W : World) : (binOp .neq 53 (.agg #[.int .i64 x, .int .i64 y]) (.agg #[.int .i64 x, .int .i64 y])).run Try.prog W = .ok (.bool false) W := by
  rw [run_neq_struct, show (10000 : Nat) = 9999 + 1 from rfl, run_equalIn_agg W 9999 _ _ _ (by kernel_rfl) (by kernel_rfl)]
  have u3 := Try.underlying3
  simp only [Program.fieldsOf, Try.underlying53]
  go_simp
theorem cellsR_get : ∀ (l : List (Nat × Int)) (i : Nat) (x : Nat × Int), l[i]? = some x → (cellsR l)[i * 2]? = some (.int .i64 (x.1 : Int)) ∧ (cellsR l)[i * 2 + 1]? = some (.int .i64 x.2)
  | [], _, _, h => by simp at h
  | y :: l, 0, x, h => by
    simp at h
    subst h
    simp [cellsR]
  | y :: l, i + 1, x, h => by
    have h1 := cellsR_get l i x (by simpa using h)
    have e : cellsR (y :: l) = .int .i64 (y.1 : Int) :: .int .i64 y.2 :: cellsR l := by simp [cellsR]
    rw [e, show (i + 1) * 2 = i * 2 + 1 + 1 by omega]
    simpa using h1
theorem cellsR_len (l : List (Nat × Int)) : (cellsR l).length = l.length * 2 := by
  induction l with
  | nil => rfl
  | cons x l ih =>
    have e : cellsR (x :: l) = .int .i64 (x.1 : Int) :: .int .i64 x.2 :: cellsR l := by simp [cellsR]
    rw [e, List.length_cons, List.length_cons, List.length_cons, ih]
    omega
/-- A ref in a row. -/
theorem refs_at {w : World} {S : List Nat} {A : Option Addr} {l : List (Nat × Int)} (h : Vals w S A (cellsR l)) {i : Nat} {x : Nat × Int} (hx : l[i]? = some x) :
    ∃ ad, A = some ad ∧ ad.block ∉ S ∧ w.cell? (ad.add (i * 2)) = some (.int .i64 (x.1 : Int)) ∧ w.cell? ⟨(ad.add (i * 2)).block, (ad.add (i * 2)).off + 1, none⟩ = some (.int .i64 x.2) := by
  obtain ⟨g1, g2⟩ := cellsR_get l i x hx
  obtain ⟨ad, rfl, k1, k2⟩ := h _ _ g1
  obtain ⟨ad2, e, k3, k4⟩ := h _ _ g2
  cases e
  refine ⟨ad, rfl, k1, k2, ?_⟩
  rw [← add_of_add, add_pos _ 1 (by decide)] at k4
  exact k4
set_option maxRecDepth 100000 in
theorem like_any (A1 A2 : Option Addr) (n c1 c2 : Nat) (l : List (Nat × Int)) (w : World) (hn : l.length = n) (h1 : Vals w [] A1 (cellsR l)) (h2 : Vals w [] A2 (cellsR l)) (hm : n ≤ 1000) :
    Calls Try.prog 56 #[.slice A1 n c1, .slice A2 n c2] w fun e w' => e = .returned (.bool true) ∧ Kept [] w w' := by
  have HN := hide hn
  have H1 := hide h1
  have H2 := hide h2
  clear hn h1 h2
  go_enter Try.func56, Try.ntmps56
  go_wp2
  go_loopw [5] (fun i wr => ∃ j : Nat, j ≤ n ∧ i = .int .i64 j ∧ ∃ d, wr = w.drewN d) (fun i wr => n - (intOf i).toNat)
  case atStart => exact ⟨0, Nat.zero_le _, rfl, 0, rfl⟩
  case round =>
    obtain ⟨j, hj, rfl, d, rfl⟩ := hrel
    by_cases hlt : j < n
    · obtain ⟨x, hx⟩ : ∃ x, l[j]? = some x := ⟨_, List.getElem?_eq_getElem (by rw [HN.out]; exact hlt)⟩
      obtain ⟨ad1, rfl, _, a0, a1⟩ := refs_at H1.out hx
      obtain ⟨ad2, rfl, _, b0, b1⟩ := refs_at H2.out hx
      have hne := neq_ref (x.1 : Int) x.2
      clear hx
      go_wp2
      go_quiet (fail)
      go_wp2
      go_roundw
      case rel => exact ⟨j + 1, by omega, by go_num, _, rfl⟩
      case measure => simp [intOf]; omega
    · obtain rfl : j = n := by omega
      go_wp2
      go_ret
      exact ⟨rfl, (Kept.refl [] w).drewN _⟩
/-- What came back, read. -/
theorem row_read {w : World} {base : Nat} {e : TypeId} {sz : Nat} {v : Value} {n : Nat} {xs : List Value} (h : w.ownsRow base e sz v n xs) : ∃ A c, v = .slice A n c ∧ n ≤ c ∧ Vals w [] A xs := by
  obtain ⟨A, c, h1, h2, h3⟩ := own_read h
  exact ⟨A, c, h1, h2, h3 [] (by simp)⟩
end Go.Proofs.Ytfeepmahipecpaa.im
