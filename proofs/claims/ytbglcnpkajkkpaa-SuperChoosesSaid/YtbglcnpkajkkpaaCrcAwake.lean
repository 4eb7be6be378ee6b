/- The law's own example. -/
import Derived.Test.YtbglcnpkajkkpaaCrcRef
import Derived.Lib.SmallJoins
namespace Go.Proofs.Ytbglcnpkajkkpaa.crc
open Go.RowKit Go.Proofs.Ytbglcnpkajkkpaa.mem Go.Proofs.Ytbglcnpkajkkpaa.base Go.Proofs.Ytbglcnpkajkkpaa.crcMath

/-- A block of these values, read as bytes. -/
theorem vals_bytes (w : World) (b : Nat) (t : TypeId) (cs : Array Value) (m : Nat × Nat) (bs : List UInt8) (h : w.heap[b]? = some (.cells cs t m)) (hc : cs.toList = bs.map B) : Vals w [] (some ⟨b, 0, none⟩) (bs.map B) := by
  intro i v hv
  refine ⟨_, rfl, by simp, ?_⟩
  rw [add_mk, cell_of_row w b _ cs t m h]
  rw [← hc] at hv
  simpa using hv
/-- A block of one slice of bytes. -/
theorem parts_one (w : World) (b : Nat) (t : TypeId) (A : Option Addr) (n c : Nat) (bs : List UInt8) (h : Blk w b t #[.slice A n c]) (hl : bs.length = n) (hn : n ≤ 140737488355328) (hv : Vals w [] A (bs.map B)) : Parts w (some ⟨b, 0, none⟩) [bs] :=
  ⟨[.slice A n c], rfl, Vals.blk 0 h (by simp) (fun i v hv => by simpa using hv), fun i bs' hb => by
    rcases i with _ | i
    · simp only [List.getElem?_cons_zero, Option.some.injEq] at hb
      subst hb
      exact ⟨A, c, by simp [hl], by omega, hv⟩
    · simp at hb⟩

theorem nine_sum : more 0 [[49, 50, 51, 52, 53, 54, 55, 56, 57]].flatten = 3808858755 := by decide +kernel
theorem none_sum : more 0 [].flatten = 0 := by decide +kernel
theorem four_sum : more (more 0 [[49, 50, 51, 52]].flatten) [53, 54, 55, 56, 57] = 3808858755 := by decide +kernel

theorem lit_parts (w : World) (g n : Nat) (cs : Array Value) (bs : List UInt8) (hc : cs.toList = bs.map B) (hn : bs.length = n) (hm : n ≤ 1000) (hg : g = w.heap.size) :
    Parts ((w.alloc (.cells cs 5 (cs.size, cs.size + 1))).alloc (.cells #[.slice (some ⟨g, 0, none⟩) n n] 26)) (some ⟨g + 1, 0, none⟩) [bs] := by
  subst hg
  refine parts_one _ _ 26 (some ⟨w.heap.size, 0, none⟩) n n bs ?_ hn (by omega) ?_
  · have := Blk.new (w.alloc (.cells cs 5 (cs.size, cs.size + 1))) 26 #[.slice (some ⟨w.heap.size, 0, none⟩) n n]
    simpa using this
  · exact (vals_bytes (w.alloc (.cells cs 5 (cs.size, cs.size + 1))) w.heap.size _ cs _ bs (heap_alloc_new w _) hc).kept ((Kept.refl [] _).alloc _) (by simp)

end Go.Proofs.Ytbglcnpkajkkpaa.crc
