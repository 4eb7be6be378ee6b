/- The law's own example. -/
import Derived.Test.YtbifmjgjbnncjaaCrcRef
import Derived.Lib.SmallJoins
namespace Go.Proofs.Ytbifmjgjbnncjaa.crc
open Go.RowKit Go.Proofs.Ytbifmjgjbnncjaa.mem Go.Proofs.Ytbifmjgjbnncjaa.base Go.Proofs.Ytbifmjgjbnncjaa.crcMath

/-- A block of these values, read as bytes. -/
theorem vals_bytes (w : World) (b : Nat) (t : TypeId) (cs : Array Value) (m : Nat × Nat) (bs : List UInt8) (h : w.heap[b]? = some (.cells cs t m)) (hc : cs.toList = bs.map B) : Vals w [] (some ⟨b, 0, none⟩) (bs.map B) := by
  intro i v hv
  refine ⟨_, rfl, by simp, ?_⟩
  rw [add_mk, cell_of_row w b _ cs t m h]
  rw [← hc] at hv
  simpa using hv
/-- A block of one slice of bytes. -/
theorem parts_one (w : World) (b : Nat) (t : TypeId) (A : Option Addr) (n c : Nat) (bs : List UInt8) (h : Blk w b t #[.slice A n c]) (hl : bs.length = n) (hn : n ≤ 140737488355328) (hv : Vals w [] A (bs.map B)) : Parts w (some ⟨b, 0, none⟩) [bs] :=
  ⟨[.slice A n c], rfl, Vals.blk 0 h (by simp) (fun i v hv => by simpa using hv), fun i bs' hb => by
    rcases i with _ | i
    · simp only [List.getElem?_cons_zero, Option.some.injEq] at hb
      subst hb
      exact ⟨A, c, by simp [hl], by omega, hv⟩
    · simp at hb⟩

theorem nine_sum : more 0 [[49, 50, 51, 52, 53, 54, 55, 56, 57]].flatten = 3808858755 := by decide +kernel
theorem none_sum : more 0 [].flatten = 0 := by decide +kernel
theorem four_sum : more (more 0 [[49, 50, 51, 52]].flatten) [53, 54, 55, 56, 57] = 3808858755 := by decide +kernel

theorem lit_parts (w : World) (g n : Nat) (cs : Array Value) (bs : List UInt8) (hc : cs.toList = bs.map B) (hn : bs.length = n) (hm : n ≤ 1000) (hg : g = w.heap.size) :
    Parts ((w.alloc (.cells cs 5 (cs.size, cs.size + 1))).alloc (.cells #[.slice (some ⟨g, 0, none⟩) n n] 23)) (some ⟨g + 1, 0, none⟩) [bs] := by
  subst hg
  refine parts_one _ _ 23 (some ⟨w.heap.size, 0, none⟩) n n bs ?_ hn (by omega) ?_
  · have := Blk.new (w.alloc (.cells cs 5 (cs.size, cs.size + 1))) 23 #[.slice (some ⟨w.heap.size, 0, none⟩) n n]
    simpa using this
  · exact (vals_bytes (w.alloc (.cells cs 5 (cs.size, cs.size + 1))) w.heap.size _ cs _ bs (heap_alloc_new w _) hc).kept ((Kept.refl [] _).alloc _) (by simp)

set_option maxRecDepth 100000 in
set_option maxHeartbeats 1000000 in
theorem awake_any (w : World) : Calls Try.prog 8 #[] w fun e w' => e = .returned (.bool true) ∧ Kept [] w w' := by
  have hcv := Go.Joins.run_convert_bytes_const_at (P := Try.prog) w 23 5 #[.int .u8 49, .int .u8 50, .int .u8 51, .int .u8 52, .int .u8 53, .int .u8 54, .int .u8 55, .int .u8 56, .int .u8 57] 9 9 w.heap.size rfl Try.underlying23 Try.underlying5
  go_enter Try.func8, Try.ntmps8
  go_wp2_with fail
  refine (sum_any _ _ _ [[49, 50, 51, 52, 53, 54, 55, 56, 57]] _ (lit_parts w w.heap.size 9 #[.int .u8 49, .int .u8 50, .int .u8 51, .int .u8 52, .int .u8 53, .int .u8 54, .int .u8 55, .int .u8 56, .int .u8 57] _ rfl rfl (by omega) rfl) rfl (by simp)).mono ?_
  rintro e w' ⟨rfl, hw⟩
  have K1 : Hid (Kept [] w w') := hide (by rw [← hw]; exact ((Kept.refl [] w).alloc _).alloc _)
  clear hw hcv
  rw [nine_sum]
  go_wp2_with fail
  refine (sum_any _ _ _ [] _ (Parts.nil _ _) rfl (by simp)).mono ?_
  rintro e w2 ⟨rfl, rfl⟩
  rw [none_sum]
  have hcv := Joins.run_convert_bytes_const_at (P := Try.prog) w' 23 5 #[.int .u8 49, .int .u8 50, .int .u8 51, .int .u8 52] 4 4 w'.heap.size rfl Try.underlying23 Try.underlying5
  go_wp2_with fail
  refine (sum_any _ _ _ [[49, 50, 51, 52]] _ (lit_parts w' w'.heap.size 4 #[.int .u8 49, .int .u8 50, .int .u8 51, .int .u8 52] _ rfl rfl (by omega) rfl) rfl (by simp)).mono ?_
  rintro e w2 ⟨rfl, hw⟩
  have K2 : Hid (Kept [] w w2) := hide (by rw [← hw]; exact (K1.out.alloc _).alloc _)
  clear hw hcv K1
  obtain ⟨y, hy⟩ : ∃ y, more 0 [[49, 50, 51, 52]].flatten = y := ⟨_, rfl⟩
  have hys := hide (show more y [53, 54, 55, 56, 57] = 3808858755 by rw [← hy]; exact four_sum)
  have hyl := hide (show y ≤ 4294967295 by rw [← hy]; exact more_le _ _)
  rw [hy]
  clear hy
  have hcv := Joins.run_convert_bytes_const_at (P := Try.prog) w2 23 5 #[.int .u8 53, .int .u8 54, .int .u8 55, .int .u8 56, .int .u8 57] 5 5 w2.heap.size rfl Try.underlying23 Try.underlying5
  go_wp2_with fail
  refine (more_at y _ _ _ [53, 54, 55, 56, 57] _ hyl.out (vals_bytes _ _ _ _ _ _ (heap_alloc_new w2 _) rfl) rfl (by simp)).mono ?_
  rintro e w3 ⟨rfl, hw⟩
  have K3 : Hid (Kept [] w w3) := hide (by rw [← hw]; exact K2.out.alloc _)
  clear hw hcv
  rw [hys.out]
  go_wp2
  go_ret
  exact ⟨rfl, K3.out⟩
end Go.Proofs.Ytbifmjgjbnncjaa.crc
