/- Package image: table, isSector, Blocks, has, swap. -/
import Derived.Test.YtfeepmahipecpaaImageMem
namespace Go.Proofs.Ytfeepmahipecpaa.im
set_option linter.unusedSimpArgs false
open Go.RowKit Go.Proofs.Ytfeepmahipecpaa.mem Go.Proofs.Ytfeepmahipecpaa.base Go.Proofs.Ytfeepmahipecpaa.pd Go.Proofs.Ytfeepmahipecpaa.owns
section
variable {w : World} {X : Ib} {M : Im}
theorem table_base (h : IAt w X M) :
    Calls Try.prog 36 #[.pointer (some ⟨X.m, 0, none⟩), .bool false] w fun e w' => e = .returned (.pointer (some ⟨X.p, 0, none⟩)) ∧ w = w' := by
  have c0 := h.box.cell 0
  clear h
  go_enter Try.func36, Try.ntmps36
  go_wp2
  go_ret
  exact ⟨rfl, rfl⟩
theorem table_over (h : IAt w X M) :
    Calls Try.prog 36 #[.pointer (some ⟨X.m, 0, none⟩), .bool true] w fun e w' => e = .returned (.pointer (some ⟨X.q, 0, none⟩)) ∧ w = w' := by
  have c1 := h.box.cell 1
  clear h
  go_enter Try.func36, Try.ntmps36
  go_wp2
  go_ret
  exact ⟨rfl, rfl⟩
theorem table_any (h : IAt w X M) (ov : Bool) :
    Calls Try.prog 36 #[.pointer (some ⟨X.m, 0, none⟩), .bool ov] w fun e w' => e = .returned (.pointer (some ⟨X.tp ov, 0, none⟩)) ∧ w = w' := by
  cases ov
  · exact table_base h
  · exact table_over h
theorem table_nil (w : World) (ov : Bool) :
    Calls Try.prog 36 #[.pointer none, .bool ov] w fun e w' => e = .returned (.pointer none) ∧ w = w' := by
  go_enter Try.func36, Try.ntmps36
  go_wp2
  go_ret
  exact ⟨rfl, rfl⟩
theorem blocks_any (h : IAt w X M) :
    Calls Try.prog 8 #[.pointer (some ⟨X.m, 0, none⟩)] w fun e w' => e = .returned (.int .i64 M.b.l.length) ∧ w = w' := by
  have H := hide h
  have HL : Hid (Calls Try.prog 37 #[.pointer (some ⟨X.p, 0, none⟩)] w fun e w' => e = .returned (.int .i64 M.b.l.length) ∧ w = w') := hide (by have := len_int h.base; rwa [List.length_map] at this)
  clear h
  go_enter Try.func8, Try.ntmps8
  go_wp2_with fail
  refine (table_base H.out).mono ?_
  rintro e w' ⟨rfl, rfl⟩
  go_wp2_with fail
  refine HL.out.mono ?_
  rintro e w' ⟨rfl, rfl⟩
  go_wp2
  go_ret
  exact ⟨rfl, rfl⟩
theorem blocks_nil (w : World) :
    Calls Try.prog 8 #[.pointer none] w fun e w' => e = .returned (.int .i64 0) ∧ w = w' := by
  go_enter Try.func8, Try.ntmps8
  go_wp2_with fail
  refine (table_nil _ _).mono ?_
  rintro e w' ⟨rfl, rfl⟩
  go_wp2_with fail
  refine (len_int_nil _).mono ?_
  rintro e w' ⟨rfl, rfl⟩
  go_wp2
  go_ret
  exact ⟨rfl, rfl⟩
theorem isSector_any (a : Int) (w : World) :
    Calls Try.prog 44 #[.int .i64 a] w fun e w' => e = .returned (.bool (decide (1 ≤ a ∧ a < 4096))) ∧ w = w' := by
  by_cases h1 : 1 ≤ a
  · go_enter Try.func44, Try.ntmps44
    go_wp2
    go_ret
    exact ⟨by simp [h1], rfl⟩
  · have hd : decide (1 ≤ a) = false := decide_eq_false h1
    go_enter Try.func44, Try.ntmps44
    go_wp2
    go_ret
    exact ⟨by simp [h1], rfl⟩
theorem has_any (h : IAt w X M) (b n : Int) (hb : b ≤ 9223372036854775807) :
    Calls Try.prog 64 #[.pointer (some ⟨X.m, 0, none⟩), .int .i64 b, .int .i64 n] w fun e w' => e = .returned (.bool (decide (0 ≤ b ∧ 1 ≤ n ∧ n ≤ M.b.l.length - b))) ∧ w = w' := by
  have H := hide h
  have hs := h.small
  clear h
  by_cases h1 : 0 ≤ b
  · by_cases h2 : 1 ≤ n
    · have hw : IntKind.i64.wrap ((M.b.l.length : Int) - b) = (M.b.l.length : Int) - b := by rw [IntKind.wrap_i64]; omega
      go_enter Try.func64, Try.ntmps64
      go_wp2_with fail
      refine (blocks_any H.out).mono ?_
      rintro e w' ⟨rfl, rfl⟩
      go_wp2
      go_ret
      exact ⟨by simp [h1, h2], rfl⟩
    · have hd : decide (1 ≤ n) = false := decide_eq_false h2
      go_enter Try.func64, Try.ntmps64
      go_wp2
      go_ret
      exact ⟨by simp [h2], rfl⟩
  · have hd : decide (0 ≤ b) = false := decide_eq_false h1
    go_enter Try.func64, Try.ntmps64
    go_wp2
    go_ret
    exact ⟨by simp [h1], rfl⟩
end
theorem swap_any {w : World} {p V D : Nat} {t : Tb} (h : ImT w p V D t) (b : Nat) (hb : b < t.l.length) (ref : Int) :
    Calls Try.prog 65 #[.pointer (some ⟨p, 0, none⟩), .int .i64 b, .int .i64 ref] w fun e w' => e = .returned (.int .i64 (t.went b ref)) ∧ ImT w' p V D (t.swap b ref) ∧ Kept [V, D] w w' := by
  obtain ⟨x, hx⟩ : ∃ x, t.l[b]? = some x := ⟨_, List.getElem?_eq_getElem hb⟩
  have hg : t.l.getD b 0 = x := by rw [List.getD_eq_getElem?_getD, hx]; rfl
  have HG := hide (get_int_at h b b rfl x hx)
  have HS := hide (set_int_at h b b rfl x ref hx (if x = ref then t.d else t.d.set (b / 15) true) rfl)
  have HE : Hid (t.swap b ref = ⟨t.l.set b ref, if x = ref then t.d else t.d.set (b / 15) true⟩) := hide (by unfold Tb.swap; rw [hg])
  have HW : Hid (t.went b ref = if x ≤ 0 ∨ x = ref then 0 else x) := hide (by unfold Tb.went; rw [hg])
  clear h hx hg
  by_cases h1 : x ≤ 0
  · have HV : Hid (t.went b ref = 0) := hide (HW.out.trans (if_pos (.inl h1)))
    clear HW
    go_enter Try.func65, Try.ntmps65
    go_wp2_with fail
    refine HG.out.mono ?_
    rintro e w1 ⟨rfl, rfl⟩
    go_wp2_with fail
    refine HS.out.mono ?_
    rintro e w1 ⟨rfl, hp, hk⟩
    have HP := hide hp
    have HK := hide hk
    clear hp hk
    go_wp2
    go_ret
    exact ⟨by rw [HV.out]; rfl, by rw [HE.out]; exact HP.out, HK.out⟩
  · by_cases h2 : x = ref
    · have HV : Hid (t.went b ref = 0) := hide (HW.out.trans (if_pos (.inr h2)))
      have hd : (x == ref) = true := beq_iff_eq.2 h2
      have hx0 : decide (x ≤ 0) = false := decide_eq_false h1
      have h2H := hide h2
      clear HW h2
      go_enter Try.func65, Try.ntmps65
      go_wp2_with fail
      refine HG.out.mono ?_
      rintro e w1 ⟨rfl, rfl⟩
      go_wp2_with fail
      refine HS.out.mono ?_
      rintro e w1 ⟨rfl, hp, hk⟩
      have HP := hide hp
      have HK := hide hk
      clear hp hk
      go_wp2
      go_ret
      exact ⟨by rw [HV.out]; rfl, by rw [HE.out]; exact HP.out, HK.out⟩
    · have HV : Hid (t.went b ref = x) := hide (HW.out.trans (if_neg (fun h => h.elim h1 h2)))
      have hd : (x == ref) = false := beq_eq_false_iff_ne.2 h2
      have hx0 : decide (x ≤ 0) = false := decide_eq_false h1
      clear HW
      go_enter Try.func65, Try.ntmps65
      go_wp2_with fail
      refine HG.out.mono ?_
      rintro e w1 ⟨rfl, rfl⟩
      go_wp2_with fail
      refine HS.out.mono ?_
      rintro e w1 ⟨rfl, hp, hk⟩
      have HP := hide hp
      have HK := hide hk
      clear hp hk
      go_wp2
      go_ret
      exact ⟨by rw [HV.out]; rfl, by rw [HE.out]; exact HP.out, HK.out⟩
end Go.Proofs.Ytfeepmahipecpaa.im
