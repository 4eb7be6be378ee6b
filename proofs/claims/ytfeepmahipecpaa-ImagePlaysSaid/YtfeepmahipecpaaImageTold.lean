/- The laws' refs, dirty and like; Pending. -/
import Derived.Test.YtfeepmahipecpaaImageDrop
import Derived.Test.YtfeepmahipecpaaImageRefs
import Derived.Laws.StructEq
namespace Go.Proofs.Ytfeepmahipecpaa.im
set_option linter.unusedSimpArgs false
set_option linter.unusedVariables false
open Go.RowKit Go.Proofs.Ytfeepmahipecpaa.mem Go.Proofs.Ytfeepmahipecpaa.base Go.Proofs.Ytfeepmahipecpaa.pd Go.Proofs.Ytfeepmahipecpaa.owns
attribute [local go_sem] Oper.semAt_some

/-- Refs as cells, numbers as cells. -/
def cellsR (l : List (Nat × Int)) : List Value := l.flatMap fun x => [.int .i64 (x.1 : Int), .int .i64 x.2]
def cellsN (l : List Nat) : List Value := l.map fun x : Nat => .int .i64 (x : Int)
theorem cellsR_snoc (l : List (Nat × Int)) (x : Nat × Int) : cellsR (l ++ [x]) = cellsR l ++ [.int .i64 (x.1 : Int), .int .i64 x.2] := by simp [cellsR]
theorem cellsN_snoc (l : List Nat) (x : Nat) : cellsN (l ++ [x]) = cellsN l ++ [.int .i64 (x : Int)] := by simp [cellsN]
theorem ref_info : (Try.prog.info? 53).map (fun i => (i.zero, i.size, i.bytes)) = some (some (.agg #[.int .i64 0, .int .i64 0]), 2, 16) := by kernel_rfl

/-- What the rounds of refs keep. -/
def RefsN (w0 : World) (b0 bg : Nat) (most : Int) (pre : List (Nat × Int)) (C : List Nat) (W : World) : Prop :=
  ∃ v, C = bg :: v.ownBlock.toList ∧ Blk W b0 3 #[.int .i64 most] ∧ RowB W bg (bg + 1) 50 53 2 v pre.length (cellsR pre) ∧ Kept [] w0 W
theorem RefsN.keep {w0 W W' : World} {b0 bg : Nat} {most : Int} {pre : List (Nat × Int)} {C S : List Nat} (h : RefsN w0 b0 bg most pre C W) (k : Kept S W W') (hS : ∀ y ∈ S, bg + 1 ≤ y ∧ y ∉ C) (hb : b0 < bg) (h0 : w0.heap.size ≤ bg) : RefsN w0 b0 bg most pre C W' := by
  obtain ⟨v, rfl, h1, h2, h3⟩ := h
  have hn : ∀ y, y ≤ bg → y ∉ S := fun y hy hm => by have := (hS y hm).1; omega
  exact ⟨v, rfl, k.blk h1 (hn _ (by omega)), h2.kept k (hn _ (by omega)) (fun y hy hm => (hS y hy).2 (by simp [hm])), h3.trans k (fun y hy => .inr (by have := (hS y hy).1; omega))⟩
set_option maxRecDepth 100000 in
set_option maxHeartbeats 4000000 in
theorem refs_in (n : Nat) (h1 : 1 ≤ n) (P : Option Addr) (Q : Option Addr) (w : World) (most : Int) (l : List (Nat × Int)) (R : List Nat) (hl : l.length ≤ 1000) (hm : (l.length : Int) ≤ most) (hR : ∀ y ∈ R, y < w.heap.size)
    (hq : ∀ W, Kept [] w W → Calls Try.prog 59 #[.pointer Q] W fun e w' => e = .returned (.func (.func 73) #[] #[.pointer (some ⟨W.heap.size, 0, none⟩)]) ∧ w' = W.alloc (.cells #[.pointer Q] 24))
    (hseq : ∀ W, Kept [] w W → Blk W (w.heap.size + 1) 24 #[.pointer Q] → SeqT Try.prog 73 #[.pointer (some ⟨w.heap.size + 1, 0, none⟩)] two l ((w.heap.size + 1) :: R) W) :
    CallsIn Fence.wide n Try.prog 28 #[.pointer Q, .int .i64 most] w fun e w' => ∃ v, e = .returned v ∧ w'.ownsRow w.heap.size 53 2 v l.length (cellsR l) ∧ Kept [] w w' := by
  obtain ⟨i0, hi, hz0, hz1, hz2⟩ := info_parts ref_info
  have hnf : ∀ (cap : Array Value) (w : World), (binOp .eql 68 (.func (.func 73) #[] cap) Value.nilFunc).run Try.prog w = .ok (.bool false) w := fun _ _ => rfl
  have HSQ := hide hseq
  have HR := hide hR
  have HQ := hide hq
  clear hseq hR hq
  refine callsIn_of_wp_marks Try.func28 rfl trivial ?_ rfl
  simp only [Try.ntmps28, List.size_toArray, List.length_cons, List.length_nil, Nat.reduceAdd, Nat.reduceSub, Array.replicate_succ, Array.replicate_zero, List.push_toArray, List.append_toArray, List.nil_append, List.cons_append]
  obtain ⟨b0, hb0⟩ : ∃ b0, w.heap.size = b0 := ⟨_, rfl⟩
  have HB0 := hide hb0
  gi_wp2_with fail
  refine ⟨trivial, ?_⟩
  refine (callsIn_wide.2 (HQ.out _ ((Kept.refl [] w).alloc _))).mono ?_
  rintro e w' ⟨rfl, rfl⟩
  gi_wp2_with fail
  have k1 : Kept [] w (((w.alloc (.cells #[.int .i64 most] 3)).alloc (.cells #[.pointer Q] 24)).alloc (.cells #[.slice none 0 0] 50)) := (((Kept.refl [] w).alloc _).alloc _).alloc _
  have B0 := ((Blk.new w 3 #[.int .i64 most]).alloc (.cells #[.pointer Q] 24)).alloc (.cells #[.slice none 0 0] 50)
  have B1 := (Blk.new (w.alloc (.cells #[.int .i64 most] 3)) 24 #[.pointer Q]).alloc (.cells #[.slice none 0 0] 50)
  have B2 := Blk.new ((w.alloc (.cells #[.int .i64 most] 3)).alloc (.cells #[.pointer Q] 24)) 50 #[.slice none 0 0]
  have hsA : (((w.alloc (.cells #[.int .i64 most] 3)).alloc (.cells #[.pointer Q] 24)).alloc (.cells #[.slice none 0 0] 50)).heap.size = b0 + 1 + 1 + 1 := by simp [hb0]
  simp only [World.size_alloc] at B1 B2
  rw [hb0] at B0 B1 B2
  try simp only [World.size_alloc, hb0]
  generalize (((w.alloc (.cells #[.int .i64 most] 3)).alloc (.cells #[.pointer Q] 24)).alloc (.cells #[.slice none 0 0] 50)) = wA at k1 B0 B1 B2 hsA ⊢
  have HK1 := hide k1
  have HBB := hide B0
  have HB2 := hide B2
  have HSA := hide hsA
  have HSQ2 := hide (HSQ.out wA k1 (by rw [hb0]; exact B1))
  rw [hb0] at HSQ2
  clear k1 B0 B1 B2 hsA hb0 HSQ
  refine range_nest (w := wA) h1 (gf := 73) (lb := #[.pointer (some ⟨b0 + 1, 0, none⟩)]) rfl (enters_of Try.func73 (by kernel_rfl) rfl) two (fun _ => rfl) l ((b0 + 1 + 1) :: []) (RefsN w b0 (b0 + 1 + 1) most) (fun _ _ _ _ => False)
    ?hN (fun _ _ _ _ _ _ h _ _ => h) ?hC ((b0 + 1) :: R) ?hR HSQ2.out ?hC0 ?h0 ?hround ?hdone (fun _ _ _ _ _ _ _ h _ _ => h.elim)
  case hN =>
    intro pre C W W' S h k hS
    have h2 := HSA.out
    have h4 := HB0.out
    exact h.keep k (fun y hy => ⟨by have := (hS y hy).1; omega, (hS y hy).2⟩) (by omega) (by omega)
  case hC =>
    rintro pre C W ⟨v, rfl, h1, h2, h3⟩ y hy
    exact h2.lts y hy
  case hR =>
    intro y hy
    have h4 := HB0.out
    have h5 := HSA.out
    rcases List.mem_cons.1 hy with rfl | hy
    · exact ⟨by simp, by omega⟩
    · have := HR.out y hy
      exact ⟨by simp; omega, by omega⟩
  case hC0 =>
    have h5 := HSA.out
    simp
    omega
  case h0 =>
    intro W hk hs
    exact ⟨.slice none 0 0, rfl, hk.blk HBB.out (by simp), ⟨hk.blk HB2.out (by simp), World.ownsRow_nil _ _ _ _, by omega⟩, HK1.out.trans hk (by simp)⟩
  case hround =>
    rintro lp pre C x W Kk hn hpre hD hD1 hWs hKK
    have HKK := hide hKK
    clear hKK
    unfold two
    gi_wp2
    refine HKK.out _ _ (Kept.refl [] W) ?_
    intro W2 hk2
    have hn2 : RefsN w b0 (b0 + 1 + 1) most pre C W2 := hn.keep hk2 (fun y hy => by have := HSA.out; simp at hy; subst hy; exact ⟨by omega, hD1⟩) (by omega) (by have := HB0.out; omega)
    obtain ⟨v, rfl, hb, hrow, hk0⟩ := hn2
    obtain ⟨A1, cc, hvs, _, _⟩ := own_read hrow.own
    subst hvs
    have HN := hide hb
    have HRW := hide hrow
    have HK0 := hide hk0
    have cb := hb.cell 0
    have cr := hrow.box.cell 0
    have hlen : pre.length < l.length := by
      have h2 := hpre.length_le
      simp at h2
      omega
    have hge : ¬ most ≤ (pre.length : Int) := by omega
    have hsz : b0 + 1 + 1 + 1 ≤ W2.heap.size := hrow.box.lt
    clear hb hrow hk0 hn hk2 hpre hD hD1 hWs HKK
    gi_wp2_with (gi_at_builtin; refine wpListIn_app rfl _ _ 50 rfl (b0 + 1 + 1 + 1) 53 i0 (.agg #[.int .i64 0, .int .i64 0]) 2 16 Try.underlying50 hi hz0 hz1 hz2 rfl (by decide) _ _ _ rfl (own_keep HRW.out.own ((Kept.refl [] W2).alloc _) (by simp)) [] (some ⟨W2.heap.size, 0, none⟩) 1 1 [.int .i64 (x.1 : Int), .int .i64 x.2] rfl rfl (Vals.lit W2 [] _ _ _ _ rfl (by simp)) (by simp [Value.oneCell']) (by simp only [maxLen]; omega) (by omega) (by rw [World.size_alloc]; omega) ?_; intro v' w1 hown1 hk1 hat1; have hmid := HRW.out.mid ((Kept.refl [] W2).alloc (.cells #[.int .i64 (x.1 : Int), .int .i64 x.2] 53)) hk1; have HGR := hide (HRW.out.grown ((Kept.refl [] W2).alloc (.cells #[.int .i64 (x.1 : Int), .int .i64 x.2] 53)) hk1 hown1 hat1); obtain ⟨g', cap', rfl⟩ := ownsRow_succ hown1; have hc61 := hmid.cell 0; have hf61 := hmid.frozen 0; clear hown1 hk1 hat1 hmid)
    obtain ⟨g1, g2, g3⟩ := HGR.out
    have hlo := HRW.out.base_le
    have h4 := HB0.out
    have hnn : ∀ y, y ≤ b0 → y ∉ (b0 + 1 + 1) :: (Value.slice A1 pre.length cc).ownBlock.toList := fun y hy hm => by
      rcases List.mem_cons.1 hm with h | h
      · omega
      · have := hlo y h; omega
    refine ⟨_, g3, g2, _, rfl, g2.blk HN.out (hnn _ (by omega)), ?_, HK0.out.trans g2 (fun y hy => .inr ?_)⟩
    · rw [List.length_append, cellsR_snoc]
      exact g1
    · rcases List.mem_cons.1 hy with h | h
      · omega
      · have := hlo y h; omega
  case hdone =>
    rintro D2 C W hD2 ⟨v, rfl, hb, hrow, hk0⟩ hDC hK
    have cr := hrow.box.cell 0
    have HRW := hide hrow
    have HK0 := hide hk0
    clear hb hrow hk0
    gi_wp2
    refine ⟨by simp, .inl ⟨_, _, rfl, run_takeDeferred hK, ?_⟩⟩
    have hkp : Kept [D2] W (W.putObj D2 (.deferred none)) := kept_putO _ _ _
    have h4 := HB0.out
    have h5 := HSA.out
    refine ⟨_, results_tmp rfl _ _ _, v, rfl, own_low (own_keep HRW.out.own hkp (fun i hi hm => ?_)) (by omega), HK0.out.trans hkp (fun y hy => .inr (by simp at hy; omega))⟩
    simp at hi
    subst hi
    exact hDC (by simp [hm])

/-- What the rounds of dirty keep. -/
def DirtN (w0 : World) (b0 bg : Nat) (most : Int) (pre : List (Nat)) (C : List Nat) (W : World) : Prop :=
  ∃ v, C = bg :: v.ownBlock.toList ∧ Blk W b0 3 #[.int .i64 most] ∧ RowB W bg (bg + 1) 29 3 1 v pre.length (cellsN pre) ∧ Kept [] w0 W
theorem DirtN.keep {w0 W W' : World} {b0 bg : Nat} {most : Int} {pre : List (Nat)} {C S : List Nat} (h : DirtN w0 b0 bg most pre C W) (k : Kept S W W') (hS : ∀ y ∈ S, bg + 1 ≤ y ∧ y ∉ C) (hb : b0 < bg) (h0 : w0.heap.size ≤ bg) : DirtN w0 b0 bg most pre C W' := by
  obtain ⟨v, rfl, h1, h2, h3⟩ := h
  have hn : ∀ y, y ≤ bg → y ∉ S := fun y hy hm => by have := (hS y hm).1; omega
  exact ⟨v, rfl, k.blk h1 (hn _ (by omega)), h2.kept k (hn _ (by omega)) (fun y hy hm => (hS y hy).2 (by simp [hm])), h3.trans k (fun y hy => .inr (by have := (hS y hy).1; omega))⟩
set_option maxRecDepth 100000 in
set_option maxHeartbeats 4000000 in
theorem dirty_in (n : Nat) (h1 : 1 ≤ n) (P : Option Addr) (ov : Bool) (Q : Option Addr) (w : World) (most : Int) (l : List (Nat)) (R : List Nat) (hl : l.length ≤ 1000) (hm : (l.length : Int) ≤ most) (hR : ∀ y ∈ R, y < w.heap.size)
    (hq : ∀ W, Kept [] w W → Calls Try.prog 60 #[.pointer P, .bool ov] W fun e w' => e = .returned (.func (.func 79) #[] #[.pointer (some ⟨W.heap.size, 0, none⟩)]) ∧ w' = W.alloc (.cells #[.pointer Q] 57))
    (hseq : ∀ W, Kept [] w W → Blk W (w.heap.size + 1) 57 #[.pointer Q] → SeqT Try.prog 79 #[.pointer (some ⟨w.heap.size + 1, 0, none⟩)] one l ((w.heap.size + 1) :: R) W) :
    CallsIn Fence.wide n Try.prog 32 #[.pointer P, .bool ov, .int .i64 most] w fun e w' => ∃ v, e = .returned v ∧ w'.ownsRow w.heap.size 3 1 v l.length (cellsN l) ∧ Kept [] w w' := by
  obtain ⟨i0, hi, hz0, hz1, hz2⟩ := info_parts int_info
  have hnf : ∀ (cap : Array Value) (w : World), (binOp .eql 82 (.func (.func 79) #[] cap) Value.nilFunc).run Try.prog w = .ok (.bool false) w := fun _ _ => rfl
  have HSQ := hide hseq
  have HR := hide hR
  have HQ := hide hq
  clear hseq hR hq
  refine callsIn_of_wp_marks Try.func32 rfl trivial ?_ rfl
  simp only [Try.ntmps32, List.size_toArray, List.length_cons, List.length_nil, Nat.reduceAdd, Nat.reduceSub, Array.replicate_succ, Array.replicate_zero, List.push_toArray, List.append_toArray, List.nil_append, List.cons_append]
  obtain ⟨b0, hb0⟩ : ∃ b0, w.heap.size = b0 := ⟨_, rfl⟩
  have HB0 := hide hb0
  gi_wp2_with fail
  refine ⟨trivial, ?_⟩
  refine (callsIn_wide.2 (HQ.out _ ((Kept.refl [] w).alloc _))).mono ?_
  rintro e w' ⟨rfl, rfl⟩
  gi_wp2_with fail
  have k1 : Kept [] w (((w.alloc (.cells #[.int .i64 most] 3)).alloc (.cells #[.pointer Q] 57)).alloc (.cells #[.slice none 0 0] 29)) := (((Kept.refl [] w).alloc _).alloc _).alloc _
  have B0 := ((Blk.new w 3 #[.int .i64 most]).alloc (.cells #[.pointer Q] 57)).alloc (.cells #[.slice none 0 0] 29)
  have B1 := (Blk.new (w.alloc (.cells #[.int .i64 most] 3)) 57 #[.pointer Q]).alloc (.cells #[.slice none 0 0] 29)
  have B2 := Blk.new ((w.alloc (.cells #[.int .i64 most] 3)).alloc (.cells #[.pointer Q] 57)) 29 #[.slice none 0 0]
  have hsA : (((w.alloc (.cells #[.int .i64 most] 3)).alloc (.cells #[.pointer Q] 57)).alloc (.cells #[.slice none 0 0] 29)).heap.size = b0 + 1 + 1 + 1 := by simp [hb0]
  simp only [World.size_alloc] at B1 B2
  rw [hb0] at B0 B1 B2
  try simp only [World.size_alloc, hb0]
  generalize (((w.alloc (.cells #[.int .i64 most] 3)).alloc (.cells #[.pointer Q] 57)).alloc (.cells #[.slice none 0 0] 29)) = wA at k1 B0 B1 B2 hsA ⊢
  have HK1 := hide k1
  have HBB := hide B0
  have HB2 := hide B2
  have HSA := hide hsA
  have HSQ2 := hide (HSQ.out wA k1 (by rw [hb0]; exact B1))
  rw [hb0] at HSQ2
  clear k1 B0 B1 B2 hsA hb0 HSQ
  refine range_nest (w := wA) h1 (gf := 79) (lb := #[.pointer (some ⟨b0 + 1, 0, none⟩)]) rfl (enters_of Try.func79 (by kernel_rfl) rfl) one (fun _ => rfl) l ((b0 + 1 + 1) :: []) (DirtN w b0 (b0 + 1 + 1) most) (fun _ _ _ _ => False)
    ?hN (fun _ _ _ _ _ _ h _ _ => h) ?hC ((b0 + 1) :: R) ?hR HSQ2.out ?hC0 ?h0 ?hround ?hdone (fun _ _ _ _ _ _ _ h _ _ => h.elim)
  case hN =>
    intro pre C W W' S h k hS
    have h2 := HSA.out
    have h4 := HB0.out
    exact h.keep k (fun y hy => ⟨by have := (hS y hy).1; omega, (hS y hy).2⟩) (by omega) (by omega)
  case hC =>
    rintro pre C W ⟨v, rfl, h1, h2, h3⟩ y hy
    exact h2.lts y hy
  case hR =>
    intro y hy
    have h4 := HB0.out
    have h5 := HSA.out
    rcases List.mem_cons.1 hy with rfl | hy
    · exact ⟨by simp, by omega⟩
    · have := HR.out y hy
      exact ⟨by simp; omega, by omega⟩
  case hC0 =>
    have h5 := HSA.out
    simp
    omega
  case h0 =>
    intro W hk hs
    exact ⟨.slice none 0 0, rfl, hk.blk HBB.out (by simp), ⟨hk.blk HB2.out (by simp), World.ownsRow_nil _ _ _ _, by omega⟩, HK1.out.trans hk (by simp)⟩
  case hround =>
    rintro lp pre C x W Kk hn hpre hD hD1 hWs hKK
    have HKK := hide hKK
    clear hKK
    unfold one
    gi_wp2
    refine HKK.out _ _ (Kept.refl [] W) ?_
    intro W2 hk2
    have hn2 : DirtN w b0 (b0 + 1 + 1) most pre C W2 := hn.keep hk2 (fun y hy => by have := HSA.out; simp at hy; subst hy; exact ⟨by omega, hD1⟩) (by omega) (by have := HB0.out; omega)
    obtain ⟨v, rfl, hb, hrow, hk0⟩ := hn2
    obtain ⟨A1, cc, hvs, _, _⟩ := own_read hrow.own
    subst hvs
    have HN := hide hb
    have HRW := hide hrow
    have HK0 := hide hk0
    have cb := hb.cell 0
    have cr := hrow.box.cell 0
    have hlen : pre.length < l.length := by
      have h2 := hpre.length_le
      simp at h2
      omega
    have hge : ¬ most ≤ (pre.length : Int) := by omega
    have hsz : b0 + 1 + 1 + 1 ≤ W2.heap.size := hrow.box.lt
    clear hb hrow hk0 hn hk2 hpre hD hD1 hWs HKK
    gi_wp2_with (gi_at_builtin; refine wpListIn_app rfl _ _ 29 rfl (b0 + 1 + 1 + 1) 3 i0 (.int .i64 0) 1 8 Try.underlying29 hi hz0 hz1 hz2 rfl (by decide) _ _ _ rfl (own_keep HRW.out.own ((Kept.refl [] W2).alloc _) (by simp)) [] (some ⟨W2.heap.size, 0, none⟩) 1 1 [.int .i64 (x : Int)] rfl rfl (Vals.lit W2 [] _ _ _ _ rfl (by simp)) (by simp [Value.oneCell']) (by simp only [maxLen]; omega) (by omega) (by rw [World.size_alloc]; omega) ?_; intro v' w1 hown1 hk1 hat1; have hmid := HRW.out.mid ((Kept.refl [] W2).alloc (.cells #[.int .i64 (x : Int)] 3)) hk1; have HGR := hide (HRW.out.grown ((Kept.refl [] W2).alloc (.cells #[.int .i64 (x : Int)] 3)) hk1 hown1 hat1); obtain ⟨g', cap', rfl⟩ := ownsRow_succ hown1; have hc61 := hmid.cell 0; have hf61 := hmid.frozen 0; clear hown1 hk1 hat1 hmid)
    obtain ⟨g1, g2, g3⟩ := HGR.out
    have hlo := HRW.out.base_le
    have h4 := HB0.out
    have hnn : ∀ y, y ≤ b0 → y ∉ (b0 + 1 + 1) :: (Value.slice A1 pre.length cc).ownBlock.toList := fun y hy hm => by
      rcases List.mem_cons.1 hm with h | h
      · omega
      · have := hlo y h; omega
    refine ⟨_, g3, g2, _, rfl, g2.blk HN.out (hnn _ (by omega)), ?_, HK0.out.trans g2 (fun y hy => .inr ?_)⟩
    · rw [List.length_append, cellsN_snoc]
      exact g1
    · rcases List.mem_cons.1 hy with h | h
      · omega
      · have := hlo y h; omega
  case hdone =>
    rintro D2 C W hD2 ⟨v, rfl, hb, hrow, hk0⟩ hDC hK
    have cr := hrow.box.cell 0
    have HRW := hide hrow
    have HK0 := hide hk0
    clear hb hrow hk0
    gi_wp2
    refine ⟨by simp, .inl ⟨_, _, rfl, run_takeDeferred hK, ?_⟩⟩
    have hkp : Kept [D2] W (W.putObj D2 (.deferred none)) := kept_putO _ _ _
    have h4 := HB0.out
    have h5 := HSA.out
    refine ⟨_, results_tmp rfl _ _ _, v, rfl, own_low (own_keep HRW.out.own hkp (fun i hi hm => ?_)) (by omega), HK0.out.trans hkp (fun y hy => .inr (by simp at hy; omega))⟩
    simp at hi
    subst hi
    exact hDC (by simp [hm])
end Go.Proofs.Ytfeepmahipecpaa.im
