/- What a crash leaves, byte by byte; a disk of eight sectors that is written with power for good. -/
import Derived.Test.YteobkgajebbpaaaDiskShelf
namespace Go.Proofs.Yteobkgajebbpaaa.shelf
open Go.RowKit Go.Proofs.Yteobkgajebbpaaa.mem Go.Proofs.Yteobkgajebbpaaa.base Go.Proofs.Yteobkgajebbpaaa.disk

/-- The contents that were written to a sector. -/
def heldOf (j : Nat) (l : List (Nat × List UInt8)) : List (List UInt8) := (l.filter (fun x => x.1 == j)).map (·.2)
theorem heldOf_snoc (j k : Nat) (b : List UInt8) (l : List (Nat × List UInt8)) : heldOf j (l ++ [(k, b)]) = if j = k then heldOf j l ++ [b] else heldOf j l := by
  unfold heldOf
  by_cases e : k = j
  · subst e
    simp
  · rw [if_neg (by omega)]
    simp [e]
theorem heldOf_mem {x : Nat × List UInt8} {l : List (Nat × List UInt8)} (h : x ∈ l) : x.2 ∈ heldOf x.1 l := List.mem_map.2 ⟨x, List.mem_filter.2 ⟨h, by simp⟩, rfl⟩
theorem heldOf_length (j : Nat) (l : List (Nat × List UInt8)) : (heldOf j l).length ≤ l.length := by
  unfold heldOf
  rw [List.length_map]
  exact List.length_filter_le _ _

structure Up (D : Dk) (a : Nat) : Prop where
  ok : D.ok
  sz : D.n = 8
  off : D.off = false
  fuse : D.fuse = -1
  flt : D.faults = List.replicate 8 false
  acts : D.acts = a
  few : D.held.length ≤ a

section
variable {D : Dk} {a : Nat}
theorem up_new : Up (Dk.new 8) 0 := ⟨Dk.new_ok _ (by omega) (by omega), new_n _, rfl, rfl, rfl, rfl, Nat.le_refl _⟩
theorem up_tick (h : Up D a) : D.tick = true := by unfold Dk.tick; rw [h.off, h.fuse]; rfl
theorem up_ticked (h : Up D a) : D.ticked = { D with acts := D.acts + 1 } := by
  unfold Dk.ticked
  rw [up_tick h, if_pos rfl, h.fuse]
  have := h.fuse
  cases D
  simp at this ⊢
  try exact this.symm
theorem up_write (h : Up D a) {k : Nat} {bs : List UInt8} (hk : k < 8) (hl : bs.length = 64) : ∃ D', D.write k bs = (0, D') ∧ Up D' (a + 1) ∧ D'.safe = D.safe ∧ D'.held = D.held ++ [(k, bs)] ∧ ∀ j, sec D'.now j = upd (fun j => sec D.now j) k bs j ∨ 8 ≤ j := by
  have hk' : k < D.n := by rw [h.sz]; exact hk
  have ho := h.ok.wrote (has_of hk') hl
  rw [Int.toNat_natCast, up_ticked h] at ho
  refine ⟨{ D with acts := D.acts + 1, held := D.held ++ [(k, bs)] }, ?_, ⟨ho, h.sz, h.off, h.fuse, h.flt, ?_, ?_⟩, rfl, rfl, fun j => ?_⟩
  · rw [write_eq hk' hl (up_tick h), up_ticked h]
  · show D.acts + 1 = a + 1
    rw [h.acts]
  · show (D.held ++ [(k, bs)]).length ≤ a + 1
    have := h.few
    simp
    omega
  · rcases Nat.lt_or_ge j 8 with hj | hj
    · left
      have h1 := sec_layH D.n j (D.held ++ [(k, bs)]) D.safe h.ok.safe ho.held
      have h2 := sec_layH D.n j D.held D.safe h.ok.safe h.ok.held
      show sec (layH D.safe (D.held ++ [(k, bs)])) j = if j = k then bs else sec (layH D.safe D.held) j
      rw [h1, h2]
      unfold lastOf
      rw [List.foldl_append]
      show (if k = j then bs else _) = _
      by_cases e : k = j
      · rw [if_pos e, if_pos e.symm]
      · rw [if_neg e, if_neg (fun e' => e e'.symm)]
    · exact .inr hj
theorem up_flush (h : Up D a) : ∃ D', D.flush = (0, D') ∧ Up D' (a + 1) ∧ D'.safe = D.now ∧ D'.held = [] := by
  have ho := h.ok.flushed
  rw [up_ticked h] at ho
  refine ⟨{ D with acts := D.acts + 1, safe := D.now, held := [] }, ?_, ⟨ho, h.sz, h.off, h.fuse, h.flt, by show D.acts + 1 = a + 1; rw [h.acts], Nat.zero_le _⟩, rfl, rfl⟩
  unfold Dk.flush
  rw [up_tick h, up_ticked h]
  rfl
theorem sec_new (j : Nat) (hj : j < 8) : sec (Dk.new 8).now j = List.replicate 64 0 := by
  show sec (List.replicate (64 * 8) (0 : UInt8)) j = _
  unfold sec
  rw [List.drop_replicate, List.take_replicate]
  congr 1
  omega

/-- Every byte behind a crash is the flushed one or one that was written since. -/
theorem crash_byte (h : Up D a) (l : List Int) : ∀ k, k ≤ D.held.length → ∀ j, j < 8 → ∀ p, p < 64 → ∀ x, (sec (crashK D l k).1 j)[p]? = some x → (sec D.safe j)[p]? = some x ∨ ∃ bs ∈ heldOf j D.held, bs[p]? = some x
  | 0, _, j, _, p, _, x, hx => .inl hx
  | k + 1, hk, j, hj, p, hp, x, hx => by
    have ih := crash_byte h l k (by omega) j hj p hp x
    have hlen := crashK_length h.ok l k (by omega)
    rw [h.sz] at hlen
    have hgd : D.held.getD k (0, []) = D.held[k] := by rw [List.getD_eq_getElem?_getD, List.getElem?_eq_getElem (by omega), Option.getD_some]
    have hmem : D.held[k] ∈ D.held := List.getElem_mem _
    have hok := h.ok.held _ hmem
    rw [h.sz] at hok
    have hh := heldOf_mem hmem
    have e : (crashK D l (k + 1)).1 = (torn (crashK D l k) (D.held.getD k (0, [])) (pickAt l k)).1 := rfl
    rw [e, hgd] at hx
    generalize D.held[k] = y at hok hh hx
    have part : ∀ q, (sec (lay (crashK D l k).1 (64 * y.1) (y.2.take q)) j)[p]? = some x → (sec D.safe j)[p]? = some x ∨ ∃ bs ∈ heldOf j D.held, bs[p]? = some x := by
      intro q hq
      have hql : (y.2.take q).length ≤ 64 := by rw [List.length_take]; omega
      by_cases e : y.1 = j
      · subst e
        rw [sec_lay_same _ y.1 8 _ hlen hok.1 hql, lay_get _ _ _ (by rw [sec_length _ y.1 8 hlen hok.1]; omega)] at hq
        split at hq
        · rename_i hin
          rw [Nat.sub_zero, List.getElem?_take_of_lt (by have := hin.2; rw [List.length_take] at this; omega)] at hq
          exact .inr ⟨_, hh, hq⟩
        · exact ih hq
      · rw [sec_lay_other _ y.1 j 8 _ hlen hok.1 hql e] at hq
        exact ih hq
    unfold torn at hx
    split at hx
    · have := part 64
      rw [List.take_of_length_le (by omega)] at this
      exact this hx
    · split at hx
      · by_cases ht : (crashK D l k).2 = true
        · rw [if_pos ht] at hx
          exact ih hx
        · rw [if_neg ht] at hx
          exact part _ hx
      · exact ih hx
theorem crash_safe (h : Up D a) (l : List Int) (i : Nat) (hi : i < 8) : ∃ bs, (D.crash l).read i = (0, bs) ∧ bs.length = 64 ∧ ∀ p, p < 64 → ∀ x, bs[p]? = some x → (sec D.safe i)[p]? = some x ∨ ∃ (j : Nat) (y : List UInt8), (heldOf i D.held)[j]? = some y ∧ y[p]? = some x := by
  have hsz : (D.crash l).n = 8 := h.sz
  have hf : (D.crash l).faults = List.replicate 8 false := h.flt
  refine ⟨sec (crashK D l D.held.length).1 i, ?_, ?_, fun p hp x hx => ?_⟩
  · rw [read_eq (by rw [hsz]; exact hi) rfl, hf, rep_false]
    rfl
  · have := crashK_length h.ok l D.held.length (Nat.le_refl _)
    rw [h.sz] at this
    exact sec_length _ i 8 this hi
  · rcases crash_byte h l _ (Nat.le_refl _) i hi p hp x hx with h1 | ⟨bs, hb, h1⟩
    · exact .inl h1
    · obtain ⟨j, hj⟩ := List.mem_iff_getElem?.1 hb
      exact .inr ⟨j, bs, hj, h1⟩
end
end Go.Proofs.Yteobkgajebbpaaa.shelf
