/- Package paged: page, Load, Page. -/
import Derived.Test.YtfeepmahipecpaaPagedOpsInt
import Derived.Test.YtfeepmahipecpaaPagedSmall
import Derived.Test.YtfeepmahipecpaaPagedLibInt
namespace Go.Proofs.Ytfeepmahipecpaa.pd
set_option linter.unusedSimpArgs false
open Go.RowKit Go.Proofs.Ytfeepmahipecpaa.mem Go.Proofs.Ytfeepmahipecpaa.base

/-- How long a page is. -/
def plen (n per k : Nat) : Nat := min (k * per + per) n - k * per

section
variable {w : World} {p V D per : Nat} {vs : List Value} {ds : List Bool}

theorem page_no (h : Pint w p V D per vs ds) (k : Int) (hk : ¬ (0 ≤ k ∧ k < ds.length)) :
    Calls Try.prog 72 #[.pointer (some ⟨p, 0, none⟩), .int .i64 k] w fun e w' => e = .returned (.slice none 0 0) ∧ w = w' := by
  have H := hide h
  by_cases h0 : k < 0
  · clear h hk
    go_enter Try.func72, Try.ntmps72
    go_wp2
    go_ret
    exact ⟨rfl, rfl⟩
  · have h1 : (ds.length : Int) ≤ k := by omega
    clear h hk
    go_enter Try.func72, Try.ntmps72
    go_wp2_with fail
    refine (pages_int H.out).mono ?_
    rintro e w' ⟨rfl, rfl⟩
    go_wp2
    go_ret
    exact ⟨rfl, rfl⟩

set_option maxRecDepth 100000 in
theorem page_yes (h : Pint w p V D per vs ds) (k : Nat) (hk : k < ds.length) (n b : Nat) (hn : vs.length = n) (hb : k * per = b) :
    Calls Try.prog 72 #[.pointer (some ⟨p, 0, none⟩), .int .i64 k] w fun e w' => e = .returned (.slice (some ⟨V, b, none⟩) (min (b + per) n - b) (n - b)) ∧ Kept [] w w' := by
  have hs := h.starts hk
  have hl := h.n2
  have hm := h.m2
  have hp1 := h.p1
  have hp2 := h.p2
  have c0 := h.c0
  have c1 := h.c1
  have H := hide h
  have hbw : IntKind.i64.wrap ((k : Int) * (per : Int)) = (b : Int) := by
    rw [← Int.natCast_mul, hb, IntKind.wrap_i64]
    omega
  have hbm : (k : Int) * (per : Int) = (b : Int) := by rw [← Int.natCast_mul, hb]
  rw [hb] at hs
  rw [hn] at hs hl c0
  have hbv : IntKind.i64.wrap (b : Int) = b := by rw [IntKind.wrap_i64]; omega
  have hsw : IntKind.i64.wrap ((b : Int) + (per : Int)) = ((b + per : Nat) : Int) := by rw [IntKind.wrap_i64]; omega
  have hne : ¬ (b = n) := by omega
  have hne2 : ¬ (n = b) := by omega
  clear h hn hb
  by_cases hmn : b + per ≤ n
  · have HX : Hid (min (b + per) n = b + per) := hide (Nat.min_eq_left hmn)
    go_enter Try.func72, Try.ntmps72
    go_wp2_with fail
    refine (pages_int H.out).mono ?_
    rintro e w' ⟨rfl, rfl⟩
    go_wp2
    go_quiet (fail)
    go_wp2
    go_ret
    exact ⟨by rw [HX.out]; rfl, (Kept.refl [] w).drewN _⟩
  · have HX : Hid (min (b + per) n = n) := hide (Nat.min_eq_right (by omega))
    have hmn2 : n < b + per := by omega
    go_enter Try.func72, Try.ntmps72
    go_wp2_with fail
    refine (pages_int H.out).mono ?_
    rintro e w' ⟨rfl, rfl⟩
    go_wp2
    go_quiet (fail)
    go_wp2
    go_ret
    exact ⟨by rw [HX.out]; rfl, (Kept.refl [] w).drewN _⟩

/-- Load of another number of values, or of no page. -/
theorem load_no (h : Pint w p V D per vs ds) (k : Int) (A : Option Addr) (l c : Nat) (hk : ¬ (0 ≤ k ∧ k < ds.length ∧ (l : Int) = min ((k + 1) * per) vs.length - k * per)) :
    Calls Try.prog 49 #[.pointer (some ⟨p, 0, none⟩), .int .i64 k, .slice A l c] w fun e w' => e = .returned (.bool false) ∧ Kept [] w w' := by
  by_cases hk2 : 0 ≤ k ∧ k < ds.length
  · obtain ⟨k, rfl⟩ := Int.eq_ofNat_of_zero_le hk2.1
    have hs := h.starts (k := k) (by omega)
    have hn2 := h.n2
    obtain ⟨b, hb⟩ : ∃ b : Nat, k * per = b := ⟨_, rfl⟩
    have e1 : ((k : Int) + 1) * per = ((b + per : Nat) : Int) := by rw [Int.add_mul, ← Int.natCast_mul, hb]; omega
    have e2 : (k : Int) * per = (b : Int) := by rw [← Int.natCast_mul, hb]
    rw [e1, e2] at hk
    have H := hide h
    have HY := page_yes h k (by omega) vs.length b rfl hb
    rw [hb] at hs
    obtain ⟨n, hn⟩ : ∃ n, vs.length = n := ⟨_, rfl⟩
    rw [hn] at HY hk hs hn2
    obtain ⟨m, hm⟩ : ∃ m, min (b + per) n - b = m := ⟨_, rfl⟩
    have hp1 := h.p1
    have hm1 : 1 ≤ m := by omega
    have hlm : ¬ (l : Int) = (m : Int) := by omega
    have hd : ((l : Int) != (m : Int)) = true := by rw [bne_iff_ne]; exact hlm
    rw [hm] at HY
    have HY := hide HY
    clear h hk hb hm hn e1 e2 hlm
    go_enter Try.func49, Try.ntmps49
    go_wp2_with fail
    refine HY.out.mono ?_
    rintro e w' ⟨rfl, hk1⟩
    have HK := hide hk1
    clear hk1
    go_wp2
    go_ret
    exact ⟨rfl, HK.out⟩
  · have HN := page_no h k hk2
    have HN := hide HN
    clear h hk hk2
    go_enter Try.func49, Try.ntmps49
    go_wp2_with fail
    refine HN.out.mono ?_
    rintro e w' ⟨rfl, rfl⟩
    go_wp2
    go_ret
    exact ⟨rfl, Kept.refl _ _⟩

set_option maxRecDepth 100000 in
/-- Load of just as many. -/
theorem load_yes (h : Pint w p V D per vs ds) (k : Nat) (hk : k < ds.length) (A : Option Addr) (l c : Nat) (b : Nat) (hb : k * per = b) (hl : l = min (b + per) vs.length - b) (xs : List Value) (hx : xs.length = l) (hv : Vals w [] A xs) (h1 : ∀ u ∈ xs, u.oneCell' = true) :
    Calls Try.prog 49 #[.pointer (some ⟨p, 0, none⟩), .int .i64 k, .slice A l c] w fun e w' => e = .returned (.bool true) ∧ Pint w' p V D per (lay vs b xs) (ds.set k false) ∧ Kept [V, D] w w' := by
  have hs := h.starts hk
  have hp1 := h.p1
  have hm := h.m2
  have HY := page_yes h k hk vs.length b rfl hb
  rw [← hl] at HY
  rw [hb] at hs
  have hl1 : 1 ≤ l := by omega
  have hl2 : b + l ≤ vs.length := by omega
  have HY := hide HY
  have H := hide h
  have HV := hide hv
  have HO := hide h1
  have HM : Hid (xs.length = Nat.min l l) := hide (by rw [hx]; exact (Nat.min_self l).symm)
  have HP : Hid (0 < xs.length) := hide (by omega)
  have HF : Hid (b + xs.length ≤ vs.length) := hide (by rw [hx]; exact hl2)
  clear h hv h1 hb hl
  have hkI : (k : Int) < (ds.length : Int) := by omega
  go_enter Try.func49, Try.ntmps49
  go_wp2_with fail
  refine HY.out.mono ?_
  rintro e w1 ⟨rfl, hk1⟩
  have HK1 := hide hk1
  have H1 := hide (H.out.keep hk1)
  have HV1 := hide (HV.out.kept hk1 (by simp))
  clear hk1
  go_wp2_with (
    with_reducible refine wpList_copy_vals (o := ⟨some 23, _, _, _, _, _⟩) ?_ 3 (.tmp 21) (.tmp 22) 29 29 ?_ Try.underlying29 size_int V b l (vs.length - b) l c A ?_ ?_ xs HM.out [] HV1.out HO.out HP.out vs H1.out.vals HF.out ?_
    · rfl
    · rfl
    · rfl
    · rfl
    intro w2 hk2 hb2
    have HL : Hid ((lay vs b xs).length = vs.length) := hide (lay_length _ _ _ HF.out)
    have H2 : Hid (Pint w2 p V D per (lay vs b xs) ds) := hide { H1.out with cells := by rw [HL.out]; exact hk2.blk H1.out.cells (by simpa using H1.out.pV), vals := hb2, marks := hk2.blk H1.out.marks (by simpa using Ne.symm H1.out.VD), n1 := by rw [HL.out]; exact H1.out.n1, n2 := by rw [HL.out]; exact H1.out.n2, pages := by rw [HL.out]; exact H1.out.pages }
    have HK2 : Hid (Kept [V, D] w w2) := hide ((HK1.out.mono (S' := [V, D]) (by simp)).trans hk2 (by simp))
    have c2 := H2.out.c2
    obtain ⟨bm, hbm⟩ : ∃ bm, ds[k]? = some bm := ⟨_, List.getElem?_eq_getElem hk⟩
    have cm := H2.out.mark hbm
    have fm := H2.out.marks.frozen k
    have H3 := hide (H2.out.turn k false)
    have HK3 : Hid (Kept [V, D] w (w2.setCell ⟨D, k, none⟩ (.bool false))) := hide (HK2.out.set_ (.inl (by simp)) k _)
    clear hk2 hb2 hbm)
  go_ret
  exact ⟨rfl, H3.out, HK3.out⟩
end
end Go.Proofs.Ytfeepmahipecpaa.pd
