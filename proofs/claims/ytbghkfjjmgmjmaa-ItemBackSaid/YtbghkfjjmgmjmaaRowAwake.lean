import Derived.Test.YtbghkfjjmgmjmaaRowNo
namespace Go.Proofs.Ytbghkfjjmgmjmaa.row
open Go.RowKit Go.Proofs.Ytbghkfjjmgmjmaa.mem

theorem put_nil (x : Int) (w : World) (hx : isW x = true) :
    Calls Try.prog 24 #[.pointer none, .int .i64 x, .slice none 0 0] w fun e w' => e = .returned (.bool false) ∧ w = w' := by
  have HX := hide hx
  clear hx
  go_enter Try.func24, Try.ntmps24
  go_wp2_with (go_at_call 35; refine (isWidth_yes _ _ HX.out).mono ?_; rintro e w' ⟨rfl, rfl⟩)
  go_loop [17] (fun i => i = .int .i64 0) (fun _ => 0)
  case atStart => rfl
  case round =>
    obtain rfl := hrel
    go_wp2_with (go_at_call 37; refine (next_nil _ _).mono ?_; rintro e w' ⟨rfl, rfl⟩)
    go_loop [37] (fun i => i = .int .i64 0) (fun _ => 0)
    case atStart => rfl
    case round =>
      obtain rfl := hrel
      go_wp2
      go_ret
      exact ⟨rfl, rfl⟩

theorem NewBytes.vals {w w' : World} {A : Option Addr} {cap : Nat} {bs : List UInt8} (h : NewBytes w w' A cap bs) {S : List Nat} (hS : ∀ i ∈ S, i < w.heap.size) : Vals w' S A (bs.map B) := by
  rcases h with ⟨rfl, rfl, rfl⟩ | ⟨g, rfl, hg, _, ha⟩
  · exact Vals.nil _ _ _
  · exact ha.vals (fun hm => by have := hS _ hm; omega)
theorem NewBytes.nil0 {w w' : World} {A : Option Addr} {cap : Nat} {bs : List UInt8} (h : NewBytes w w' A cap bs) (hA : A = none) : cap = 0 := by
  rcases h with ⟨rfl, rfl, rfl⟩ | ⟨g, rfl, hg, _, ha⟩
  · rfl
  · cases hA

theorem NewBytes.pos {w w' : World} {A : Option Addr} {cap : Nat} {bs : List UInt8} (h : NewBytes w w' A cap bs) (hn : 0 < bs.length) : ∃ g, A = some ⟨g, 0, none⟩ ∧ w.heap.size ≤ g ∧ Arr w' g cap bs := by
  rcases h with ⟨_, _, rfl⟩ | ⟨g, h1, h2, _, h3⟩
  · cases hn
  · exact ⟨g, h1, h2, h3⟩

/-- A slice over a block of one number. -/
theorem vals_one (w : World) (S : List Nat) (n : Int) (t : TypeId) (hS : ∀ i ∈ S, i < w.heap.size) : Vals (w.alloc (.cells #[.int .i64 n] t)) S (some ⟨w.heap.size, 0, none⟩) ([n].map I) :=
  Vals.blk 0 (Blk.new w t #[.int .i64 n]) (fun hm => by have := hS _ hm; omega) (fun i v hv => by
    rcases i with _ | i
    · simpa [I] using hv
    · simp at hv)

theorem made_B (n i : Nat) (h : i < n) : (madeCells #[.int .u8 0] n)[i]? = some (B 0) := by
  simp [madeCells, h, Nat.mod_one]
  rfl

/-- A slice over a new block of zeros. -/
theorem vals_made (w : World) (S : List Nat) (n : Nat) (hS : ∀ i ∈ S, i < w.heap.size) : Vals (w.alloc (.cells (madeCells #[.int .u8 0] n) 5)) S (some ⟨w.heap.size, 0, none⟩) ((List.replicate n 0).map B) :=
  Vals.blk 0 (Blk.new w _ _) (fun hm => by have := hS _ hm; omega) (fun i v hv => by
    rw [List.map_replicate, List.getElem?_replicate] at hv
    split at hv
    · rename_i hi
      rw [Nat.zero_add, made_B n i hi]
      exact hv
    · cases hv)

end Go.Proofs.Ytbghkfjjmgmjmaa.row
