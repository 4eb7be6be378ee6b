/- The reference's table: Free, Next, Sealed. -/
import Derived.Test.YtjcnndnipnkhoaaUsageRefA
import Derived.Test.YtjcnndnipnkhoaaUsageFrees
import Derived.Test.YtjcnndnipnkhoaaUsageTake
namespace Go.Proofs.Ytjcnndnipnkhoaa.us
set_option linter.unusedSimpArgs false
open Go.RowKit Go.Proofs.Ytjcnndnipnkhoaa.mem Go.Proofs.Ytjcnndnipnkhoaa.base Go.Proofs.Ytjcnndnipnkhoaa.geom

section
variable {w : World} {p U L : Nat} {b s l r q : Int} {rs : List Rw}

set_option maxRecDepth 100000 in
theorem rfree_any (h : RAt w p U L b s l r q rs) :
    Calls Try.prog 45 #[.pointer (some ⟨p, 0, none⟩)] w fun e w' => e = .returned (.int .i64 (inState rs 0 rs.length).length) ∧ w = w' := by
  have H := hide h
  have hb := h.bounds
  have c1 := h.c1
  obtain ⟨n, hn⟩ : ∃ n, rs.length = n := ⟨_, rfl⟩
  have HN := hide hn
  rw [hn] at hb c1
  clear h hn
  go_enter Try.func45, Try.ntmps45
  go_wp2
  go_loopw [3, 4] (fun c i wr => ∃ k : Nat, k ≤ n ∧ i = .int .i64 k ∧ c = .int .i64 ((inState rs 0 k).length : Nat) ∧ wr = w) (fun c i _ => n - (intOf i).toNat)
  case atStart => exact ⟨0, Nat.zero_le _, rfl, rfl, rfl⟩
  case round =>
    obtain ⟨k, hk, rfl, rfl, rfl⟩ := hrel
    by_cases hlt : k < n
    · obtain ⟨x, hx⟩ : ∃ x, rs[k]? = some x := ⟨_, List.getElem?_eq_getElem (by rw [HN.out]; exact hlt)⟩
      obtain ⟨d0, d1⟩ := H.out.uses hx
      have hlc := inState_length rs 0 k
      by_cases hs : x.s = 0
      · have HS := hide (inState_yes hx hs)
        rw [hs] at d0
        have hw1 : IntKind.i64.wrap (((inState rs 0 k).length : Int) + 1) = ((inState rs 0 k).length : Int) + 1 := IntWalk.i64_in _ (by omega)
        clear hx hs
        go_wp2
        go_roundw
        case rel => exact ⟨k + 1, by omega, by go_num, by rw [HS.out, List.length_append]; simp, trivial⟩
        case measure => simp [intOf]; omega
      · have HS := hide (inState_no hx hs)
        have he : (x.s == 0) = false := beq_eq_false_iff_ne.2 hs
        clear hx hs
        go_wp2
        go_roundw
        case rel => exact ⟨k + 1, by omega, by go_num, by rw [HS.out], trivial⟩
        case measure => simp [intOf]; omega
    · obtain rfl : k = n := by omega
      go_wp2
      go_ret
      exact ⟨by rw [HN.out]; rfl, rfl⟩

/-- Which one Take would give. -/
def nextOf (rs : List Rw) (spare : Bool) : Int := if ((inState rs 0 rs.length).length : Int) ≤ backOf spare then -1 else (inState rs 0 rs.length).headD (-1)
theorem inState_head {rs : List Rw} {st : Int} {k n : Nat} {x : Rw} (h : inState rs st k = []) (hx : rs[k]? = some x) (hs : x.s = st) (hk : k < n) : (inState rs st n).headD (-1) = k := by
  obtain ⟨t, ht⟩ := inState_prefix rs st (k + 1) n hk
  rw [inState_yes hx hs, h] at ht
  rw [← ht]
  rfl

set_option maxRecDepth 100000 in
theorem rnext_any (h : RAt w p U L b s l r q rs) (spare : Bool) :
    Calls Try.prog 18 #[.pointer (some ⟨p, 0, none⟩), .bool spare] w fun e w' => e = .returned (.int .i64 (nextOf rs spare)) ∧ w = w' := by
  have H := hide h
  have hb := h.bounds
  have c1 := h.c1
  have HFR := hide (rfree_any h)
  obtain ⟨n, hn⟩ : ∃ n, rs.length = n := ⟨_, rfl⟩
  have HN := hide hn
  have hle := inState_length rs 0 rs.length
  unfold nextOf
  rw [hn] at hb c1 hle HFR ⊢
  clear h hn
  have hz0 : Hid (inState rs 0 n = [] → (inState rs 0 n).length = 0) := hide (fun h => by rw [h]; rfl)
  obtain ⟨m, hm⟩ : ∃ m, (inState rs 0 n).length = m := ⟨_, rfl⟩
  rw [hm] at HFR hle hz0
  rw [hm]
  clear hm
  by_cases hs : (m : Int) ≤ backOf spare
  · rw [if_pos hs]
    have HS := hide hs
    cases spare
    all_goals
      have hn2 := HS.out
      simp only [backOf, Bool.false_eq_true, if_false, if_true] at hn2
      have hn3 := decide_eq_true hn2
      clear hs
      go_enter Try.func18, Try.ntmps18
      go_wp2_with fail
      refine HFR.out.mono ?_
      rintro e w1 ⟨rfl, rfl⟩
      go_wp2
      go_ret
      exact ⟨rfl, rfl⟩
  · rw [if_neg hs]
    have HS := hide hs
    cases spare
    all_goals
      have hn2 := HS.out
      simp only [backOf, Bool.false_eq_true, if_false, if_true] at hn2
      have hn3 := decide_eq_false hn2
      have hm0 : Hid (m ≠ 0) := hide (by omega)
      clear hs
      go_enter Try.func18, Try.ntmps18
      go_wp2_with fail
      refine HFR.out.mono ?_
      rintro e w1 ⟨rfl, rfl⟩
      go_wp2
      go_loopw [6] (fun i wr => ∃ k : Nat, k ≤ n ∧ i = .int .i64 k ∧ Hid (inState rs 0 k = []) ∧ wr = w) (fun i _ => n - (intOf i).toNat)
      case atStart => exact ⟨0, Nat.zero_le _, rfl, hide rfl, rfl⟩
      case round =>
        obtain ⟨k, hk, rfl, HE, rfl⟩ := hrel
        by_cases hlt : k < n
        · obtain ⟨x, hx⟩ : ∃ x, rs[k]? = some x := ⟨_, List.getElem?_eq_getElem (by rw [HN.out]; exact hlt)⟩
          obtain ⟨d0, d1⟩ := H.out.uses hx
          by_cases hs : x.s = 0
          · have HH := hide (inState_head (n := n) HE.out hx hs hlt)
            rw [hs] at d0
            clear hx hs
            go_wp2
            go_ret
            exact ⟨by rw [HH.out]; rfl, rfl⟩
          · have HS2 := hide (inState_no hx hs)
            have he : (x.s == 0) = false := beq_eq_false_iff_ne.2 hs
            clear hx hs
            go_wp2
            go_roundw
            case rel => exact ⟨k + 1, by omega, by go_num, hide (by rw [HS2.out]; exact HE.out), trivial⟩
            case measure => simp [intOf]; omega
        · obtain rfl : k = n := by omega
          exact absurd (hz0.out HE.out) hm0.out
end
end Go.Proofs.Ytjcnndnipnkhoaa.us
