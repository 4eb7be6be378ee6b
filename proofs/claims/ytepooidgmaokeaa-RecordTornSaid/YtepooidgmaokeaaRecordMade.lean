/- The laws' made (its regions that draw are filled in by tools/genrmade.py). -/
import Derived.Test.YtepooidgmaokeaaRecordMadeMath
import Derived.Test.YtepooidgmaokeaaRecordLead
import Derived.Test.YtepooidgmaokeaaItemOf
import Derived.Test.YtepooidgmaokeaaAlike
import Derived.Test.YtepooidgmaokeaaOrders
import Derived.Test.YtepooidgmaokeaaHeld
namespace Go.Proofs.Ytepooidgmaokeaa.record
open Go.RowKit Go.Proofs.Ytepooidgmaokeaa.mem Go.Proofs.Ytepooidgmaokeaa.base Go.Proofs.Ytepooidgmaokeaa.row Go.Proofs.Ytepooidgmaokeaa.rowBack Go.Proofs.Ytepooidgmaokeaa.fill Go.Proofs.Ytepooidgmaokeaa.crc Go.Proofs.Ytepooidgmaokeaa.crcMath Go.Proofs.Ytepooidgmaokeaa.super Go.Proofs.Ytepooidgmaokeaa.item

theorem fillOf_wrap (y : Int) : fillOf (IntKind.i64.wrap y) = fillOf y := by
  unfold fillOf
  have e : IntKind.i64.wrap y % 256 = y % 256 := by
    rw [IntKind.wrap_i64]
    omega
  rw [e]

theorem own_blk {w : World} {base : Nat} {e : TypeId} {sz : Nat} {v : Value} {n : Nat} {xs : List Value} (h : w.ownsRow base e sz v n xs) : ∀ i ∈ v.ownBlock.toList, base ≤ i ∧ i < w.heap.size ∧ ∃ cur, Blk w i e cur := by
  intro i hi
  rcases h.2 with ⟨rfl, _⟩ | ⟨g, cap, cur, rfl, hb, hg, _⟩
  · simp [Value.ownBlock] at hi
  · simp [Value.ownBlock] at hi
    subst hi
    exact ⟨hb, Blk.lt (show Blk w _ e cur from hg), cur, hg⟩
theorem own_keep {w w' : World} {base : Nat} {e : TypeId} {sz : Nat} {v : Value} {n : Nat} {xs : List Value} {S : List Nat} (h : w.ownsRow base e sz v n xs) (k : Kept S w w') (hs : ∀ i ∈ S, i ∉ v.ownBlock.toList) : w'.ownsRow base e sz v n xs := by
  refine ⟨h.1, ?_⟩
  rcases h.2 with hn | ⟨g, cap, cur, rfl, hb, hg, rest⟩
  · exact .inl hn
  · exact .inr ⟨g, cap, cur, rfl, hb, k.blk (show Blk w g e cur from hg) (fun hm => hs g hm (by simp [Value.ownBlock])), rest⟩
theorem own_apart {w : World} {b1 b2 : Nat} {e1 e2 : TypeId} {s1 s2 : Nat} {v u : Value} {n m : Nat} {xs ys : List Value} (h : w.ownsRow b1 e1 s1 v n xs) (k : w.ownsRow b2 e2 s2 u m ys) (hne : e1 ≠ e2) : ∀ i ∈ v.ownBlock.toList, i ∉ u.ownBlock.toList := by
  intro i hi hj
  obtain ⟨_, _, c1, h1⟩ := own_blk h i hi
  obtain ⟨_, _, c2, h2⟩ := own_blk k i hj
  unfold Blk at h1 h2
  rw [h1] at h2
  injection h2 with h2
  injection h2 with _ h2
  exact hne h2

/-- A record under way: its items in v, its blocks in u. -/
structure MS (wr w : World) (g s Bz : Nat) (x1 x2 x3 : Int) (its : List It) (bks : List (List UInt8)) (v u : Value) (vs : List Value) : Prop where
  rec_ : Blk wr s 25 #[.int .i64 x1, .int .i64 x2, .int .i64 x3, v, u]
  items : Own wr Bz v its
  blocks : wr.ownsRow Bz 28 1 u bks.length vs
  parts : PartsIn wr (g :: s :: (u.ownBlock.toList ++ v.ownBlock.toList)) vs bks
  zero : Blk wr g 25 #[.int .i64 0, .int .i64 0, .int .i64 0, .slice none 0 0, .slice none 0 0]
  kept : Kept [] w wr
  size : Bz ≤ wr.heap.size

section
variable {wr w w9 w10 : World} {g s Bz : Nat} {x1 x2 x3 : Int} {its : List It} {bks : List (List UInt8)} {v u v1 : Value} {vs : List Value}
theorem MS.item (h : MS wr w g s Bz x1 x2 x3 its bks v u vs) (hgs : g < s) (hsB : s < Bz) (hw : w.heap.size ≤ s) (k9 : Kept [] wr w9) (i : It) (hown : w10.ownsRow Bz 52 4 v1 (its.length + 1) (valsOf its ++ i.vals)) (hk : Kept v.ownBlock.toList w9 w10)
    (hat : v1.ownBlock = v.ownBlock ∨ v1.ownBlock = some w9.heap.size) : MS (w10.setCell ⟨s, 3, none⟩ v1) w g s Bz x1 x2 x3 (its ++ [i]) bks v1 u vs := by
  have hv := own_blk (show wr.ownsRow Bz 52 4 v its.length (valsOf its) from h.items)
  have hu := own_blk h.blocks
  have hap := own_apart (show wr.ownsRow Bz 52 4 v its.length (valsOf its) from h.items) h.blocks (by decide)
  have hs9 := k9.size
  have hs10 := hk.size
  have ks : Kept [s] w10 (w10.setCell ⟨s, 3, none⟩ v1) := (Kept.refl [s] w10).set_ (b := s) (.inl (by simp)) 3 v1
  have hns : s ∉ v.ownBlock.toList := fun hm => by have := (hv s hm).1; omega
  have hng : g ∉ v.ownBlock.toList := fun hm => by have := (hv g hm).1; omega
  have hzs := ks.size
  refine ⟨(hk.blk (k9.blk h.rec_ (by simp)) hns).set_ 3 v1, ?_, ?_, ?_, ks.blk (hk.blk (k9.blk h.zero (by simp)) hng) (by simp; omega), ?_, by have := h.size; omega⟩
  · refine Own.kept (Own.snoc hown) ks (by simp; omega)
  · exact own_keep (own_keep (own_keep h.blocks k9 (by simp)) hk hap) ks (fun i hi hm => by
      simp at hi
      subst hi
      have := (hu _ hm).1
      omega)
  · have h1 : PartsIn w9 (w9.heap.size :: g :: s :: (u.ownBlock.toList ++ v.ownBlock.toList)) vs bks := (h.parts.away (fun i hi => by
      rcases List.mem_cons.1 hi with rfl | hi
      · exact .inr hs9
      · exact .inl hi)).kept k9 (by simp)
    refine ((h1.kept hk (fun i hi => by simp [hi])).kept ks (by simp)).less (fun i hi => ?_)
    rcases List.mem_cons.1 hi with rfl | hi
    · simp
    rcases List.mem_cons.1 hi with rfl | hi
    · simp
    rcases List.mem_append.1 hi with hi | hi
    · simp [hi]
    · rcases hat with ha | ha
      · rw [ha] at hi
        simp [hi]
      · rw [ha] at hi
        simp at hi
        simp [hi]
  · exact ((h.kept.trans k9 (by simp)).trans hk (fun i hi => .inr (by have := (hv i hi).1; omega))).trans ks (by simp; omega)
theorem MS.block (h : MS wr w g s Bz x1 x2 x3 its bks v u vs) (hgs : g < s) (hsB : s < Bz) (hw : w.heap.size ≤ s) {w8 : World} (k8 : Kept [] wr w8) (k9 : Kept [] w8 w9) {gp : Nat} {blk : List UInt8} (ha : Arr w8 gp 64 blk) (hl : blk.length = 64) (hgp : wr.heap.size ≤ gp)
    (hown : w10.ownsRow Bz 28 1 v1 (bks.length + 1) (vs ++ [.slice (some ⟨gp, 0, none⟩) 64 64])) (hk : Kept u.ownBlock.toList w9 w10)
    (hat : v1.ownBlock = u.ownBlock ∨ v1.ownBlock = some w9.heap.size) (hz9 : w8.heap.size ≤ w9.heap.size) : MS (w10.setCell ⟨s, 4, none⟩ v1) w g s Bz x1 x2 x3 its (bks ++ [blk]) v v1 (vs ++ [.slice (some ⟨gp, 0, none⟩) 64 64]) := by
  have hv := own_blk (show wr.ownsRow Bz 52 4 v its.length (valsOf its) from h.items)
  have hu := own_blk h.blocks
  have hap := own_apart h.blocks (show wr.ownsRow Bz 52 4 v its.length (valsOf its) from h.items) (by decide)
  have hs8 := k8.size
  have hs10 := hk.size
  have hgl := ha.lt
  have ks : Kept [s] w10 (w10.setCell ⟨s, 4, none⟩ v1) := (Kept.refl [s] w10).set_ (b := s) (.inl (by simp)) 4 v1
  have k89 := k8.trans k9 (by simp)
  have hns : s ∉ u.ownBlock.toList := fun hm => by have := (hu s hm).1; omega
  have hng : g ∉ u.ownBlock.toList := fun hm => by have := (hu g hm).1; omega
  have hzs := ks.size
  refine ⟨(hk.blk (k89.blk h.rec_ (by simp)) hns).set_ 4 v1, ?_, ?_, ?_, ks.blk (hk.blk (k89.blk h.zero (by simp)) hng) (by simp; omega), ?_, by have := h.size; omega⟩
  · exact own_keep (own_keep (own_keep (show wr.ownsRow Bz 52 4 v its.length (valsOf its) from h.items) k89 (by simp)) hk hap) ks (fun i hi hm => by
      simp at hi
      subst hi
      have := (hv _ hm).1
      omega)
  · rw [List.length_append]
    exact owns_kept hown ks (by simp; omega)
  · have h1 : PartsIn w9 (w9.heap.size :: g :: s :: (u.ownBlock.toList ++ v.ownBlock.toList)) vs bks := (h.parts.away (fun i hi => by
      rcases List.mem_cons.1 hi with rfl | hi
      · exact .inr (by omega)
      · exact .inl hi)).kept k89 (by simp)
    have h2 : Vals w9 (w9.heap.size :: g :: s :: (u.ownBlock.toList ++ v.ownBlock.toList)) (some ⟨gp, 0, none⟩) (blk.map B) := (ha.kept k9 (by simp)).vals (fun hm => by
      have hs := h.rec_.lt
      have hg := h.zero.lt
      rcases List.mem_cons.1 hm with hm | hm
      · omega
      rcases List.mem_cons.1 hm with hm | hm
      · omega
      rcases List.mem_cons.1 hm with hm | hm
      · omega
      rcases List.mem_append.1 hm with hm | hm
      · have := (hu gp hm).2.1; omega
      · have := (hv gp hm).2.1; omega)
    refine (((h1.snoc (some ⟨gp, 0, none⟩) 64 64 blk hl (by omega) h2).kept hk (fun i hi => by simp [hi])).kept ks (by simp)).less (fun i hi => ?_)
    rcases List.mem_cons.1 hi with rfl | hi
    · simp
    rcases List.mem_cons.1 hi with rfl | hi
    · simp
    rcases List.mem_append.1 hi with hi | hi
    · rcases hat with ha | ha
      · rw [ha] at hi
        simp [hi]
      · rw [ha] at hi
        simp at hi
        simp [hi]
    · simp [hi]
  · exact ((h.kept.trans k89 (by simp)).trans hk (fun i hi => .inr (by have := (hu i hi).1; omega))).trans ks (by simp; omega)
end
end Go.Proofs.Ytepooidgmaokeaa.record
