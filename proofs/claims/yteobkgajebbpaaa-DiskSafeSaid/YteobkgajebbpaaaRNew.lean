/- The reference's NewDisk. -/
import Derived.Test.YteobkgajebbpaaaRRead
namespace Go.Proofs.Yteobkgajebbpaaa.disk
open Go.RowKit Go.Proofs.Yteobkgajebbpaaa.mem Go.Proofs.Yteobkgajebbpaaa.base

theorem rnew_no (x : Int) (w : World) (h : x < 1 ∨ 4096 < x) : Calls Try.prog 11 #[.int .i64 x] w fun e w' => e = .returned (.pointer none) ∧ w = w' := by
  go_enter Try.func11, Try.ntmps11
  go_wp2_with fail
  refine (within_no x 1 4096 _ (by omega)).mono ?_
  rintro e w' ⟨rfl, rfl⟩
  go_wp2
  go_ret
  exact ⟨rfl, rfl⟩

theorem slice_info : (Try.prog.info? 34).map (fun i => (i.zero, i.size, i.bytes)) = some (some (.slice none 0 0), 1, 24) := by kernel_rfl
theorem oneCell_sl (g : Nat) : ∀ u ∈ [sl g], u.oneCell' = true := by
  intro u hu
  simp only [List.mem_cons, List.not_mem_nil, or_false] at hu
  subst hu
  rfl

/-- So many sectors are there. -/
structure Grow (w0 w : World) (r gf n : Nat) (v : Value) (k : Nat) (sgs : List Nat) : Prop where
  blk : Blk w r 55 #[v, .slice none 0 0, .slice (some ⟨gf, 0, none⟩) n n, .int .i64 (-1), .bool false, .int .i64 0, .slice none 0 0]
  own : w.ownsRow 0 34 1 v k (sgs.map sl)
  ogn : ∀ g, v.ownBlock = some g → w0.heap.size ≤ g
  dup : sgs.Nodup
  safe : ∀ g ∈ sgs, Row w g 5 ((List.replicate 64 (0 : UInt8)).map B)
  faults : Row w gf 4 ((List.replicate n false).map Value.bool)
  new : ∀ x ∈ r :: gf :: sgs, w0.heap.size ≤ x
  kept : Kept [] w0 w

theorem grow_step {w0 w w5 : World} {r gf n k : Nat} {v v1 : Value} {sgs : List Nat} (h : Grow w0 w r gf n v k sgs) (Z : Array Value) (hZ : Row (w.alloc (.cells Z 5)) w.heap.size 5 ((List.replicate 64 (0 : UInt8)).map B))
    (hown : w5.ownsRow 0 34 1 v1 (k + 1) (sgs.map sl ++ [sl w.heap.size])) (hk : Kept v.ownBlock.toList (((w.alloc (.cells Z 5)).alloc (.cells #[sl w.heap.size] 34)).drew) w5) (hat : v1.ownBlock = v.ownBlock ∨ v1.ownBlock = some (w.heap.size + 2)) :
    (w5.cell? ⟨r, 0, none⟩ = some v ∧ w5.frozen? ⟨r, 0, none⟩ = false) ∧ Grow w0 (w5.setCell ⟨r, 0, none⟩ v1) r gf n v1 (k + 1) (sgs ++ [w.heap.size]) := by
  have hs := h.kept.size
  have k1 : Kept [] w (((w.alloc (.cells Z 5)).alloc (.cells #[sl w.heap.size] 34)).drew) := (((Kept.refl [] w).alloc _).alloc _).drew
  have hty : ∀ {g t vs}, Row w g t vs → t ≠ 34 → g ∉ v.ownBlock.toList := fun {g t vs} hr ht hm => by
    rcases h.own.2 with ⟨h2, _⟩ | ⟨g', cap, cur, hv, hb, hh, r⟩
    · rw [h2] at hm; simp [Value.ownBlock] at hm
    · rw [hv] at hm
      simp [Value.ownBlock] at hm
      subst hm
      exact Row.ne_ hr (Row.of_blk (show Blk w _ 34 cur from hh)) ht rfl
  have hrb := Row.of_blk h.blk
  have b5 := hk.blk (k1.blk h.blk (by simp)) (hty hrb (by decide))
  have hgn : w.heap.size ∉ v.ownBlock.toList := fun hm => by
    rcases h.own.2 with ⟨h2, _⟩ | ⟨g', cap, cur, hv, hb, hh, r⟩
    · rw [h2] at hm; simp [Value.ownBlock] at hm
    · rw [hv] at hm
      simp [Value.ownBlock] at hm
      have := Blk.lt (show Blk w g' 34 cur from hh)
      omega
  have z5 : Row w5 w.heap.size 5 ((List.replicate 64 (0 : UInt8)).map B) := ((hZ.alloc _).drew).kept hk hgn
  have k6 : Kept [r] w5 (w5.setCell ⟨r, 0, none⟩ v1) := (Kept.refl _ _).set_ (.inl (by simp)) _ _
  have hrl : r < w.heap.size := h.blk.lt
  have hlt : ∀ g ∈ sgs, g < w.heap.size := fun g hg => (h.safe g hg).lt
  have hog : ∀ g, v1.ownBlock = some g → w0.heap.size ≤ g := fun g hg => by
    rcases hat with hat | hat
    · rw [hat] at hg; exact h.ogn g hg
    · rw [hat] at hg
      injection hg with hg
      omega
  refine ⟨⟨b5.cell 0, b5.frozen 0⟩, ⟨by have := b5.set_ 0 v1; simpa using this, ?_, hog, ?_, ?_, ?_, ?_, ?_⟩⟩
  · rw [List.map_append]
    rcases hown.2 with ⟨_, h2⟩ | ⟨g', cap, cur, hv, hb, hh, hrest⟩
    · omega
    · refine ⟨hown.1, .inr ⟨g', cap, cur, hv, hb, ?_, hrest⟩⟩
      have hb5 : Blk w5 g' 34 cur := hh
      exact hb5.far_ (Row.ne_ (Row.of_blk hb5) (Row.of_blk b5) (by decide)) _ _
  · rw [List.nodup_append]
    exact ⟨h.dup, by simp, fun a ha b hb => by simp at hb; have := hlt a ha; omega⟩
  · intro g hg
    rcases List.mem_append.1 hg with hg | hg
    · have r5 := ((h.safe g hg).kept k1 (by simp)).kept hk (hty (h.safe g hg) (by decide))
      exact r5.kept k6 (by simp; have := Row.ne_ r5 (Row.of_blk b5) (by decide); exact this)
    · simp at hg
      subst hg
      exact z5.kept k6 (by simp; omega)
  · have r5 := (h.faults.kept k1 (by simp)).kept hk (hty h.faults (by decide))
    exact r5.kept k6 (by simp; exact Row.ne_ r5 (Row.of_blk b5) (by decide))
  · intro x hx
    simp only [List.mem_cons, List.mem_append, List.not_mem_nil, or_false] at hx
    rcases hx with rfl | rfl | hx | rfl
    · exact h.new _ (by simp)
    · exact h.new _ (by simp)
    · exact h.new _ (by simp [hx])
    · exact hs
  · refine ((h.kept.trans k1 (by simp)).trans hk (fun x hx => .inr ?_)).trans k6 (fun x hx => .inr ?_)
    · exact h.ogn x (by simpa using hx)
    · simp at hx
      subst hx
      exact h.new _ (by simp)

theorem sec_zeros (n i : Nat) (hi : i < n) : sec (List.replicate (64 * n) (0 : UInt8)) i = List.replicate 64 0 := by
  unfold sec
  rw [List.drop_replicate, List.take_replicate]
  congr 1
  omega

set_option maxRecDepth 100000 in
set_option maxHeartbeats 2000000 in
theorem rnew_ok (x : Int) (n : Nat) (hx : x = n) (w : World) (h1 : 1 ≤ n) (h2 : n ≤ 4096) : Calls Try.prog 11 #[.int .i64 x] w fun e w' =>
    ∃ r gs gf cs sgs, e = .returned (.pointer (some ⟨r, 0, none⟩)) ∧ Out w w' r gs gf n cs n none 0 sgs (List.replicate (64 * n) 0) (List.replicate n false) ∧ Kept [] w w' := by
  subst hx
  have hb := make_bools n h2
  have rb := row_bools n
  generalize madeCells #[Value.bool false] n = Y at hb rb
  have hmk : ∀ w : World, (Instr.makeSlice 34 (.int .i64 64) (.int .i64 64)).run Try.prog w = .ok (.slice (some ⟨w.heap.size, 0, none⟩) 64 64) (w.alloc (.cells (madeCells #[.int .u8 0] 64) 5)) :=
    run_make_row' (P := Try.prog) 34 5 (.int .u8 0) 1 (by kernel_rfl) (by kernel_rfl) rfl .i64 .i64 64 (by omega) (by omega)
  have hz : ∀ w : World, Row (w.alloc (.cells (madeCells #[.int .u8 0] 64) 5)) w.heap.size 5 ((List.replicate 64 (0 : UInt8)).map B) := fun w => ⟨_, Blk.new _ _ _, by rw [size_madeCells]; simp, fun i v hv => by
    rw [List.map_replicate, List.getElem?_replicate] at hv
    split at hv
    · rename_i hi
      rw [made_B 64 i hi]
      exact hv
    · cases hv⟩
  generalize madeCells #[Value.int .u8 0] 64 = Z at hmk hz
  have HZ := hide hz
  have RB := hide rb
  clear hz rb
  have hn1 : (1 : Int) ≤ n := by omega
  have hn2 : (n : Int) ≤ 4096 := by omega
  have G0 : Hid (Grow w ((w.alloc (.cells Y 4)).alloc (.cells #[.slice none 0 0, .slice none 0 0, .slice (some ⟨w.heap.size, 0, none⟩) n n, .int .i64 (-1), .bool false, .int .i64 0, .slice none 0 0] 55)) (w.heap.size + 1) w.heap.size n (.slice none 0 0) 0 []) := hide
    ⟨by have := Blk.new (w.alloc (.cells Y 4)) 55 #[.slice none 0 0, .slice none 0 0, .slice (some ⟨w.heap.size, 0, none⟩) n n, .int .i64 (-1), .bool false, .int .i64 0, .slice none 0 0]; simpa using this,
      ⟨rfl, .inl ⟨rfl, rfl⟩⟩, by simp [Value.ownBlock], by simp, by simp, (RB.out w).alloc _, by simp, ((Kept.refl [] w).alloc _).alloc _⟩
  go_enter Try.func11, Try.ntmps11
  go_wp2_with fail
  refine (within_yes _ 1 4096 _ (by omega)).mono ?_
  rintro e w' ⟨rfl, rfl⟩
  go_wp2
  go_loopw [4] (fun i wr => ∃ (k : Nat) (v : Value) (sgs : List Nat), k ≤ n ∧ i = .int .i64 k ∧ Hid (Grow w wr (w.heap.size + 1) w.heap.size n v k sgs)) (fun i wr => n - (intOf i).toNat)
  case atStart => exact ⟨0, _, _, Nat.zero_le _, rfl, G0⟩
  case round =>
    obtain ⟨k, v, sgs, hk, rfl, HG⟩ := hrel
    generalize w.heap.size + 1 = r at *
    by_cases hlt : k < n
    · have c0 : wr.cell? ⟨r, 0, none⟩ = some v := HG.out.blk.cell 0
      have hrl := HG.out.blk.lt
      have c0a : (wr.alloc (.cells Z 5)).cell? ⟨r, 0, none⟩ = some v := (HG.out.blk.alloc _).cell 0
      have O3 : Hid ((((wr.alloc (.cells Z 5)).alloc (.cells #[sl wr.heap.size] 34)).drew).ownsRow 0 34 1 v k (sgs.map sl)) := hide (((HG.out.own.alloc _).alloc _))
      have V3 : Hid (Vals (((wr.alloc (.cells Z 5)).alloc (.cells #[sl wr.heap.size] 34)).drew) [] (some ⟨wr.heap.size + 1, 0, none⟩) [sl wr.heap.size]) := hide (by
        have := (Row.of_blk (Blk.new (wr.alloc (.cells Z 5)) 34 #[sl wr.heap.size])).drew.vals0 (S := []) (by simp)
        simpa using this)
      clear G0
      unfold sl at O3 V3
      go_wp2
      go_region_law (first
        | (refine step_append_vals rfl (.tmp 21) (.tmp 23) 51 rfl 0 34 (.slice none 0 0) 1 24 Try.underlying51 slice_info rfl (by omega) v k (sgs.map sl) rfl O3.out [] _ 1 1 [sl wr.heap.size] rfl rfl V3.out (oneCell_sl _) (by simp only [maxLen]; omega) (by omega) (Nat.zero_le _) ?_; intro v1 w5 hown1 hk1 hat1; obtain ⟨g1, c1, cur1, rfl, _, _⟩ := own_some hown1 (by omega); have HST := hide (grow_step HG.out Z (HZ.out wr) hown1 hk1 (by simpa using hat1)); obtain ⟨⟨c05, f05⟩, _⟩ := HST.out; clear hown1 hk1 hat1))
      all_goals
        have HN := hide HST.out.2
        clear HST c05 f05
        go_wp2
        exact ⟨⟨k + 1, _, _, by omega, by go_num, HN⟩, by simp [intOf]; omega⟩
    · obtain rfl : k = n := by omega
      clear G0
      go_wp2
      go_ret
      have hg := HG.out
      obtain ⟨g1, c1, cur1, rfl, hc1, _⟩ := own_some hg.own (by omega)
      obtain ⟨g2, hg2, hrow, _⟩ := own_addr hg.own (by omega)
      injection hg2 with hg2
      injection hg2 with hg2
      subst hg2
      have hsl : sgs.length = k := by have := hg.own.1; simpa using this
      refine ⟨_, g1, _, c1, sgs, rfl, ⟨hg.blk, hrow, hsl, hg.dup, fun i g hi => ?_, hg.faults, by simp, by simp, ?_, hc1, Nat.le_refl _, fun _ => rfl⟩, hg.kept⟩
      · rw [sec_zeros k i (by rw [← hsl]; exact (List.getElem?_eq_some_iff.1 hi).1)]
        exact hg.safe g (getElem?_mem hi)
      · intro y hy
        simp only [List.mem_cons] at hy
        rcases hy with rfl | rfl | rfl | hy
        · exact hg.new _ (by simp)
        · exact hg.ogn _ rfl
        · exact hg.new _ (by simp)
        · exact hg.new _ (by simp [hy])
end Go.Proofs.Yteobkgajebbpaaa.disk
