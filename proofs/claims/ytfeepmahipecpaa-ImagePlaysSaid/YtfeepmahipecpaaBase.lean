/- Words that each seat wants: a row of the call's own as a slice; made bytes; the reference's Mod, Round, Part. -/
import Derived.Test.YtfeepmahipecpaaRows
import Derived.Test.YtfeepmahipecpaaMemOps
import Derived.BigQuiet
import Derived.ChangeAlike
import Derived.Deep.Fields
import Derived.Deep.OwnRows
import Derived.Deep.QuietTactic
import Derived.Deep.RegionHeld3
import Derived.Deep.RegionLaw
import Derived.Deep.Slices
import Derived.IntWalk
import Derived.RegionTactic
import Derived.WalkKit
import Derived.WalkLawsBesides
import Derived.WalkSpells
namespace Go.Proofs.Ytfeepmahipecpaa.base
open Go.RowKit Go.Proofs.Ytfeepmahipecpaa.mem

/-- A slice over a block of one number. -/
theorem vals_one (w : World) (S : List Nat) (n : Int) (t : TypeId) (hS : ∀ i ∈ S, i < w.heap.size) : Vals (w.alloc (.cells #[.int .i64 n] t)) S (some ⟨w.heap.size, 0, none⟩) ([n].map I) :=
  Vals.blk 0 (Blk.new w t #[.int .i64 n]) (fun hm => by have := hS _ hm; omega) (fun i v hv => by
    rcases i with _ | i
    · simpa [I] using hv
    · simp at hv)

theorem made_B (n i : Nat) (h : i < n) : (madeCells #[.int .u8 0] n)[i]? = some (B 0) := by
  simp [madeCells, h, Nat.mod_one]
  rfl

/-- A slice over a new block of zeros. -/
theorem vals_made (w : World) (S : List Nat) (n : Nat) (hS : ∀ i ∈ S, i < w.heap.size) : Vals (w.alloc (.cells (madeCells #[.int .u8 0] n) 5)) S (some ⟨w.heap.size, 0, none⟩) ((List.replicate n 0).map B) :=
  Vals.blk 0 (Blk.new w _ _) (fun hm => by have := hS _ hm; omega) (fun i v hv => by
    rw [List.map_replicate, List.getElem?_replicate] at hv
    split at hv
    · rename_i hi
      rw [Nat.zero_add, made_B n i hi]
      exact hv
    · cases hv)

/-- What a row of the call's own is, as a slice. -/
theorem own_slice {w : World} {base : Nat} {e : TypeId} {v : Value} {n : Nat} {xs : List Value} (h : w.ownsRow base e 1 v n xs) : ∃ A c, v = .slice A n c ∧ n ≤ c ∧ (A = none → c = 0) ∧ (∀ S : List Nat, (∀ i ∈ S, i < base ∨ w.heap.size ≤ i) → Vals w S A xs) ∧ (∀ g, v.ownBlock = some g → base ≤ g) := by
  rcases h.2 with ⟨rfl, rfl⟩ | ⟨g, cap, cur, rfl, hb, hh, hn, hm, hs, ht⟩
  · have : xs = [] := List.eq_nil_of_length_eq_zero (by simpa using h.1)
    subst this
    exact ⟨none, 0, rfl, Nat.le_refl _, fun _ => rfl, fun S _ => Vals.nil _ _ _, by simp [Value.ownBlock]⟩
  · refine ⟨_, _, rfl, hn, by simp, fun S hS => ?_, by simp [Value.ownBlock]; exact hb⟩
    have hlt : g < w.heap.size := Blk.lt (show Blk w g e cur from hh)
    refine Vals.blk 0 (show Blk w g e cur from hh) (fun hm => by have := hS _ hm; omega) (fun i v hv => ?_)
    have hi : i < n := by have := (List.getElem?_eq_some_iff.1 hv).1; have := h.1; omega
    rw [← ht, List.getElem?_take_of_lt (by omega)] at hv
    simpa using hv

theorem kept_own {w wr w1 : World} {base : Nat} {e : TypeId} {v : Value} {n : Nat} {xs : List Value} (h : wr.ownsRow base e 1 v n xs) (hb : w.heap.size ≤ base) (h1 : Kept [] w wr) (o : Obj) (h2 : Kept v.ownBlock.toList (wr.alloc o) w1) : Kept [] w w1 :=
  (h1.alloc o).trans h2 (fun i hi => .inr (by
    obtain ⟨_, _, _, _, _, _, hg⟩ := own_slice h
    have := hg i (by simpa using hi)
    omega))

theorem kept_mid {w wr wm w1 : World} {base : Nat} {e : TypeId} {v : Value} {n : Nat} {xs : List Value} (h : wr.ownsRow base e 1 v n xs) (hb : w.heap.size ≤ base) (h1 : Kept [] w wm) (h2 : Kept v.ownBlock.toList wm w1) : Kept [] w w1 :=
  h1.trans h2 (fun i hi => .inr (by
    obtain ⟨_, _, _, _, _, _, hg⟩ := own_slice h
    have := hg i (by simpa using hi)
    omega))

theorem int_info : (Try.prog.info? 3).map (fun i => (i.zero, i.size, i.bytes)) = some (some (.int .i64 0), 1, 8) := by kernel_rfl

theorem mod_any (x n : Int) (w : World) (hn : 0 < n) (hn2 : n ≤ 4611686018427387904) :
    Calls Try.prog 58 #[.int .i64 x, .int .i64 n] w fun e w' => e = .returned (.int .i64 (x % n)) ∧ w = w' := by
  have hne : (n == 0) = false := beq_eq_false_iff_ne.2 (by omega)
  have h1 := Int.tmod_lt_of_pos x hn
  have h2 := Int.lt_tmod_of_pos x hn
  have h3 : Hid (x % n = if x.tmod n < 0 then x.tmod n + n else x.tmod n) := by
    unfold Hid
    have h4 : x = n * x.tdiv n + x.tmod n := (Int.mul_tdiv_add_tmod x n).symm
    have h5 : x % n = x.tmod n % n := by
      conv => lhs; rw [h4]
      rw [Int.mul_add_emod_self_left]
    split
    · rw [h5, ← Int.add_emod_right, Int.emod_eq_of_lt (by omega) (by omega)]
    · rw [h5, Int.emod_eq_of_lt (by omega) (by omega)]
  by_cases hk : x.tmod n < 0
  · have HK := hide (show (n + x.tmod n = x % n) by rw [h3.out, if_pos hk]; omega)
    have HK2 := hide (show (x.tmod n + n = x % n) by rw [h3.out, if_pos hk])
    clear h3
    go_enter Try.func58, Try.ntmps58
    go_wp2
    go_ret
    exact ⟨congrArg (fun q => Ending.returned (.int .i64 q)) HK2.out, rfl⟩
  · have HK2 := hide (show (x.tmod n = x % n) by rw [h3.out, if_neg hk])
    have hk' : 0 ≤ x.tmod n := by omega
    clear h3
    go_enter Try.func58, Try.ntmps58
    go_wp2
    go_ret
    exact ⟨congrArg (fun q => Ending.returned (.int .i64 q)) HK2.out, rfl⟩

theorem round_any (x n : Int) (w : World) (hn : 0 < n) (hn2 : n ≤ 4611686018427387904) :
    Calls Try.prog 27 #[.int .i64 x, .int .i64 n] w fun e w' => e = .returned (.int .i64 (x % n)) ∧ w = w' := by
  have H1 := hide hn
  have H2 := hide hn2
  clear hn hn2
  go_enter Try.func27, Try.ntmps27
  go_wp2_with fail
  refine (mod_any x n _ H1.out H2.out).mono ?_
  rintro e w' ⟨rfl, rfl⟩
  go_wp2
  go_ret
  exact ⟨rfl, rfl⟩

theorem round_ex (x n : Int) (w : World) (hn : 0 < n) (hn2 : n ≤ 4611686018427387904) :
    Calls Try.prog 27 #[.int .i64 x, .int .i64 n] w fun e w' => ∃ k : Nat, (k : Int) < n ∧ e = .returned (.int .i64 k) ∧ w = w' := by
  have h1 := Int.emod_nonneg x (show n ≠ 0 by omega)
  have h2 := Int.emod_lt_of_pos x hn
  refine (round_any x n w hn hn2).mono fun e w' ⟨he, hw⟩ => ⟨(x % n).toNat, by omega, ?_, hw⟩
  rw [he, Int.toNat_of_nonneg h1]
theorem cut_le (m i : Nat) (bs : List UInt8) : 0 + ((bs.drop i).take m).length ≤ (List.replicate m (0 : UInt8)).length := by simp; omega
theorem size8 : (Try.prog.info? 5).map (·.size) = some 1 := by kernel_rfl

end Go.Proofs.Ytfeepmahipecpaa.base
