/- The document's own example. -/
import Derived.Test.YtjcnndnipnkhoaaUsageTake
import Derived.Test.YtjcnndnipnkhoaaUsageFree
import Derived.Test.YtjcnndnipnkhoaaUsageSealed
import Derived.Test.YtjcnndnipnkhoaaUsageRelease
import Derived.Test.YtjcnndnipnkhoaaUsageNew
import Derived.Test.YtjcnndnipnkhoaaPageAlike
namespace Go.Proofs.Ytjcnndnipnkhoaa.us
set_option linter.unusedSimpArgs false
open Go.RowKit Go.Proofs.Ytjcnndnipnkhoaa.mem Go.Proofs.Ytjcnndnipnkhoaa.base Go.Proofs.Ytjcnndnipnkhoaa.geom

set_option maxHeartbeats 1000000 in
theorem eight_any (w : World) : Calls Try.prog 29 #[] w fun e w' => ∃ p, e = .returned (.tuple #[.pointer (some ⟨p, 0, none⟩), .agg #[.int .i64 4, .int .i64 8, .int .i64 24], .bool true]) ∧ w.heap.size ≤ p ∧ GAt w' p 4 8 24 2 1 ∧ Kept [] w w' := by
  have hk1 : Kept [] w ((w.alloc (.cells #[.int .i64 0, .int .i64 0, .int .i64 0] 27)).alloc (.cells #[.int .i64 4, .int .i64 8, .int .i64 24] 27)) := ((Kept.refl [] w).alloc _).alloc _
  have hb0 : Blk ((w.alloc (.cells #[.int .i64 0, .int .i64 0, .int .i64 0] 27)).alloc (.cells #[.int .i64 4, .int .i64 8, .int .i64 24] 27)) w.heap.size 27 #[.int .i64 0, .int .i64 0, .int .i64 0] := (Blk.new _ _ _).alloc _
  have hb1 := Blk.new (w.alloc (.cells #[.int .i64 0, .int .i64 0, .int .i64 0] 27)) 27 #[.int .i64 4, .int .i64 8, .int .i64 24]
  rw [World.size_alloc] at hb1
  have HK1 := hide hk1
  have HB0 := hide hb0
  have HB1 := hide hb1
  clear hk1 hb0 hb1
  go_enter Try.func29, Try.ntmps29
  go_wp2_with fail
  refine (new_yes 4 8 24 _ (by unfold Ok; omega)).mono ?_
  rintro e w1 ⟨p, r, q, rfl, hg, hp, hk2⟩
  obtain rfl : r = 2 := by have := hg.hr; omega
  obtain rfl : q = 1 := by have := hg.hq; omega
  have hb0 := hk2.blk HB0.out (by simp)
  have hb1 := hk2.blk HB1.out (by simp)
  have HG := hide hg
  have HK2 := hide (HK1.out.trans hk2 (by simp))
  have HP : Hid (w.heap.size ≤ p) := hide (by simp at hp; omega)
  have HP2 : Hid (w.heap.size < p) := hide (by simp at hp; omega)
  have c10 : w1.cell? ⟨w.heap.size + 1, 0, none⟩ = some (.int .i64 4) := hb1.cell 0
  have c11 : w1.cell? ⟨w.heap.size + 1, 1, none⟩ = some (.int .i64 8) := hb1.cell 1
  have c12 : w1.cell? ⟨w.heap.size + 1, 2, none⟩ = some (.int .i64 24) := hb1.cell 2
  have c00 : w1.cell? ⟨w.heap.size, 0, none⟩ = some (.int .i64 0) := hb0.cell 0
  have c01 : w1.cell? ⟨w.heap.size, 1, none⟩ = some (.int .i64 0) := hb0.cell 1
  have c02 : w1.cell? ⟨w.heap.size, 2, none⟩ = some (.int .i64 0) := hb0.cell 2
  have f0 := hb0.frozen 0
  have f1 := hb0.frozen 1
  have f2 := hb0.frozen 2
  have hlt : w.heap.size < w1.heap.size := hb0.lt
  have hbf := ((((hb0.set_ 0 (.int .i64 4)).set_ 1 (.int .i64 8)).set_ 2 (.int .i64 24)).drew)
  have e0 : ((((w1.setCell ⟨w.heap.size, 0, none⟩ (.int .i64 4)).setCell ⟨w.heap.size, 1, none⟩ (.int .i64 8)).setCell ⟨w.heap.size, 2, none⟩ (.int .i64 24)).drew).cell? ⟨w.heap.size, 0, none⟩ = some (.int .i64 4) := hbf.cell 0
  have e1 : ((((w1.setCell ⟨w.heap.size, 0, none⟩ (.int .i64 4)).setCell ⟨w.heap.size, 1, none⟩ (.int .i64 8)).setCell ⟨w.heap.size, 2, none⟩ (.int .i64 24)).drew).cell? ⟨w.heap.size, 1, none⟩ = some (.int .i64 8) := hbf.cell 1
  have e2 : ((((w1.setCell ⟨w.heap.size, 0, none⟩ (.int .i64 4)).setCell ⟨w.heap.size, 1, none⟩ (.int .i64 8)).setCell ⟨w.heap.size, 2, none⟩ (.int .i64 24)).drew).cell? ⟨w.heap.size, 2, none⟩ = some (.int .i64 24) := hbf.cell 2
  have HE := hide (And.intro e0 (And.intro e1 e2))
  clear hg hk2 hp hb0 hb1 hbf e0 e1 e2
  go_wp2
  go_region
  go_wp2
  obtain ⟨e0, e1, e2⟩ := HE.out
  have HKF : Hid (Kept [w.heap.size] w1 ((((w1.setCell ⟨w.heap.size, 0, none⟩ (.int .i64 4)).setCell ⟨w.heap.size, 1, none⟩ (.int .i64 8)).setCell ⟨w.heap.size, 2, none⟩ (.int .i64 24)).drew)) := hide (((((Kept.refl [w.heap.size] w1).set_ (b := w.heap.size) (.inl (by simp)) 0 _).set_ (b := w.heap.size) (.inl (by simp)) 1 _).set_ (b := w.heap.size) (.inl (by simp)) 2 _).drew)
  generalize (((w1.setCell ⟨w.heap.size, 0, none⟩ (.int .i64 4)).setCell ⟨w.heap.size, 1, none⟩ (.int .i64 8)).setCell ⟨w.heap.size, 2, none⟩ (.int .i64 24)).drew = w9 at *
  refine bodyPost_ret (v := .tuple #[.pointer (some ⟨p, 0, none⟩), .agg #[.int .i64 4, .int .i64 8, .int .i64 24], .bool true]) (by simp [results, Try.results29, go_sem, e0, e1, e2]) rfl ?_
  have hpw : p ≠ w.heap.size := by have := HP2.out; omega
  exact ⟨p, rfl, HP.out, HG.out.kept HKF.out (by simpa using hpw), HK2.out.trans HKF.out (by simp)⟩

/-! The example's tables, one behind the other. -/
def taken (k : Nat) : List Rw := List.replicate k ⟨1, 0, 0⟩ ++ List.replicate (8 - k) Rw.zero
def exA : List Rw := [⟨2, 0, 0⟩, ⟨1, 0, 0⟩, ⟨1, 0, 0⟩, ⟨1, 0, 0⟩, ⟨1, 0, 0⟩, ⟨1, 0, 0⟩, ⟨1, 0, 0⟩, ⟨0, 0, 0⟩]
def exB : List Rw := [⟨2, 0, 1⟩, ⟨1, 0, 0⟩, ⟨1, 0, 0⟩, ⟨1, 0, 0⟩, ⟨1, 0, 0⟩, ⟨1, 0, 0⟩, ⟨1, 0, 0⟩, ⟨0, 0, 0⟩]
def exC : List Rw := [⟨0, 0, 0⟩, ⟨1, 0, 0⟩, ⟨1, 0, 0⟩, ⟨1, 0, 0⟩, ⟨1, 0, 0⟩, ⟨1, 0, 0⟩, ⟨1, 0, 0⟩, ⟨0, 0, 0⟩]
theorem ex_free (k : Nat) (hk : k ≤ 7) : inState (taken k) 0 (taken k).length = (List.range' k (8 - k)).map (fun i : Nat => (i : Int)) := by
  match k, hk with
  | 0, _ => decide
  | 1, _ => decide
  | 2, _ => decide
  | 3, _ => decide
  | 4, _ => decide
  | 5, _ => decide
  | 6, _ => decide
  | 7, _ => decide
theorem ex_grab (k : Nat) (hk : k ≤ 7) : grabOf (taken k) k = taken (k + 1) := by
  match k, hk with
  | 0, _ => decide
  | 1, _ => decide
  | 2, _ => decide
  | 3, _ => decide
  | 4, _ => decide
  | 5, _ => decide
  | 6, _ => decide
  | 7, _ => decide
theorem ex_shut : shutOf (taken 7) 0 = exA := by decide
theorem ex_sealed : inState exA 2 exA.length = [0] := by decide
theorem ex_add : addOf 8 24 2 1 exA 13 1 = exB := by decide
theorem ex_dead : deadIds exB exB.length = [] := by decide
theorem ex_same : exB.map Rw.free = exB := by decide
theorem ex_less : addOf 8 24 2 1 exB 13 (-1) = exA := by decide
theorem ex_gone : deadIds exA exA.length = [0] := by decide
theorem ex_back : exA.map Rw.free = exC := by decide
theorem ex_two : inState exC 0 exC.length = [0, 7] := by decide
theorem ex_in : addIn 8 24 2 1 13 := by unfold addIn; omega
end Go.Proofs.Ytjcnndnipnkhoaa.us
