/- crc.Sum; the reference's More and Sum. -/
import Derived.Test.YtbglcnpkajkkpaaCrcMore
namespace Go.Proofs.Ytbglcnpkajkkpaa.crc
open Go.RowKit Go.Proofs.Ytbglcnpkajkkpaa.mem Go.Proofs.Ytbglcnpkajkkpaa.base Go.Proofs.Ytbglcnpkajkkpaa.crcMath

/-- A slice that reads rows of bytes. -/
def Parts (w : World) (A : Option Addr) (bss : List (List UInt8)) : Prop :=
  ∃ vs : List Value, vs.length = bss.length ∧ Vals w [] A vs ∧ ∀ (i : Nat) (bs : List UInt8), bss[i]? = some bs → ∃ Ai ci, vs[i]? = some (.slice Ai bs.length ci) ∧ bs.length ≤ 140737488355328 ∧ Vals w [] Ai (bs.map B)
theorem Parts.kept {w w' : World} {A : Option Addr} {bss : List (List UInt8)} (h : Parts w A bss) (k : Kept [] w w') : Parts w' A bss := by
  obtain ⟨vs, h1, h2, h3⟩ := h
  exact ⟨vs, h1, h2.kept k (by simp), fun i bs hb => by
    obtain ⟨Ai, ci, h4, h5, h6⟩ := h3 i bs hb
    exact ⟨Ai, ci, h4, h5, h6.kept k (by simp)⟩⟩
theorem Parts.at_ {w : World} {A : Option Addr} {bss : List (List UInt8)} (h : Parts w A bss) (i : Nat) (bs : List UInt8) (hb : bss[i]? = some bs) :
    ∃ ad Ai ci, A = some ad ∧ w.cell? (ad.add i) = some (.slice Ai bs.length ci) ∧ bs.length ≤ 140737488355328 ∧ Vals w [] Ai (bs.map B) := by
  obtain ⟨vs, h1, h2, h3⟩ := h
  obtain ⟨Ai, ci, h4, h5, h6⟩ := h3 i bs hb
  obtain ⟨ad, h7, _, h8⟩ := h2 i _ h4
  exact ⟨ad, Ai, ci, h7, h8, h5, h6⟩
theorem Parts.nil (w : World) (A : Option Addr) : Parts w A [] := ⟨[], rfl, Vals.nil _ _ _, by simp⟩

theorem more_le (s : Nat) (bs : List UInt8) : more s bs ≤ 4294967295 := Nat.sub_le _ _
theorem more_more (s : Nat) (a b : List UInt8) : more (more s a) b = more s (a ++ b) := by
  have h := crcBits_lt (4294967295 - s) (allBits a) (by omega)
  unfold more
  rw [allBits_append, crcBits_append, show 4294967295 - (4294967295 - crcBits (4294967295 - s) (allBits a)) = crcBits (4294967295 - s) (allBits a) by omega]
theorem more_nil (s : Nat) (h : s ≤ 4294967295) : more s [] = s := by
  change 4294967295 - (4294967295 - s) = s
  omega
theorem flat_take (bss : List (List UInt8)) (k : Nat) (bs : List UInt8) (h : bss[k]? = some bs) : (bss.take (k + 1)).flatten = (bss.take k).flatten ++ bs := by
  rw [List.take_add_one, h]
  simp
theorem sum_mod (s : Nat) (h : s ≤ 4294967295) : ((s : Int) % 4294967296).toNat = s := by omega

theorem more_start (bss : List (List UInt8)) : (Value.int .i64 0) = Value.int .i64 (more 0 (bss.take 0).flatten : Nat) := by
  rw [List.take_zero, List.flatten_nil, more_nil 0 (by omega)]
  rfl
theorem more_start0 (bs : List UInt8) : (Value.int .i64 0) = Value.int .i64 (more 0 (bs.take 0) : Nat) := by
  rw [List.take_zero, more_nil 0 (by omega)]
  rfl
theorem more_at (s : Nat) (A : Option Addr) (n c : Nat) (bs : List UInt8) (w : World) (hs : s ≤ 4294967295) (hv : Vals w [] A (bs.map B)) (hl : bs.length = n) (hn : n ≤ 140737488355328) :
    Calls Try.prog 55 #[.int .i64 s, .slice A n c] w fun e w' => e = .returned (.int .i64 (more s bs)) ∧ w = w' := by
  have h := more_any s A n c bs w hv hl hn
  rw [sum_mod s hs] at h
  exact h

/-- One part more. -/
theorem more_part (y : Nat) (A : Option Addr) (n c : Nat) (bss : List (List UInt8)) (bs : List UInt8) (k : Nat) (w : World) (hb : bss[k]? = some bs) (hy : more 0 (bss.take k).flatten = y) (hv : Vals w [] A (bs.map B)) (hl : bs.length = n) (hn : n ≤ 140737488355328) :
    Calls Try.prog 55 #[.int .i64 y, .slice A n c] w fun e w' => e = .returned (.int .i64 (more 0 (bss.take (k + 1)).flatten)) ∧ w = w' := by
  subst hy
  have h := more_at (more 0 (bss.take k).flatten) A n c bs w (more_le _ _) hv hl hn
  rw [more_more, ← flat_take _ _ _ hb] at h
  exact h

set_option maxRecDepth 100000 in
theorem sum_any (A : Option Addr) (n c : Nat) (bss : List (List UInt8)) (w : World) (hv : Parts w A bss) (hl : bss.length = n) (hn : n ≤ 140737488355328) :
    Calls Try.prog 42 #[.slice A n c] w fun e w' => e = .returned (.int .i64 (more 0 bss.flatten)) ∧ w = w' := by
  have HV := hide hv
  have HL := hide hl
  clear hv hl
  go_enter Try.func42, Try.ntmps42
  go_wp2
  go_loop [8, 3] (fun i x => ∃ k : Nat, k ≤ n ∧ i = .int .i64 k ∧ x = .int .i64 (more 0 (bss.take k).flatten)) (fun i _ => n - (intOf i).toNat)
  case atStart => exact ⟨0, by omega, rfl, more_start bss⟩
  case round =>
    obtain ⟨k, hk, rfl, rfl⟩ := hrel
    by_cases hlt : k < n
    · have hkl : k < bss.length := by rw [HL.out]; exact hlt
      have hx : bss[k]? = some bss[k] := List.getElem?_eq_getElem hkl
      have HX := hide hx
      obtain ⟨ad, Ai, ci, rfl, hc, hm, hvi⟩ := HV.out.at_ k _ hx
      have HVi := hide hvi
      clear hvi hx
      obtain ⟨y, hy⟩ : ∃ y : Nat, more 0 (bss.take k).flatten = y := ⟨_, rfl⟩
      have HY := hide hy
      rw [hy]
      clear hy
      generalize bss[k] = b at HX hc HVi hm
      have HM := hide hm
      clear hm
      go_wp2_with fail
      refine (more_part y _ _ _ bss b k _ HX.out HY.out HVi.out rfl HM.out).mono ?_
      rintro e w' ⟨rfl, rfl⟩
      go_wp2
      exact ⟨⟨k + 1, by omega, by go_num, rfl⟩, by simp [intOf]; omega⟩
    · obtain rfl : k = n := by omega
      have hz : bss.take k = bss := List.take_of_length_le (by rw [HL.out]; exact Nat.le_refl _)
      rw [hz]
      go_wp2
      go_ret
      exact ⟨rfl, rfl⟩
end Go.Proofs.Ytbglcnpkajkkpaa.crc
