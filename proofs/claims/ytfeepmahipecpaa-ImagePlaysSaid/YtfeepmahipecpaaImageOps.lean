/- Package image: New, Write, Put, Ref, Look, Page, Clean. -/
import Derived.Test.YtfeepmahipecpaaImageSmall
namespace Go.Proofs.Ytfeepmahipecpaa.im
set_option linter.unusedSimpArgs false
set_option linter.unusedVariables false
open Go.RowKit Go.Proofs.Ytfeepmahipecpaa.mem Go.Proofs.Ytfeepmahipecpaa.base Go.Proofs.Ytfeepmahipecpaa.pd Go.Proofs.Ytfeepmahipecpaa.owns

section
variable {w : World} {X : Ib} {M : Im}
theorem put_yes (h : IAt w X M) (ov : Bool) (b : Nat) (a : Int) (hb : b < M.b.l.length) (h1 : 1 ≤ a) (h2 : a < 4096) :
    Calls Try.prog 39 #[.pointer (some ⟨X.m, 0, none⟩), .bool ov, .int .i64 b, .int .i64 a] w fun e w' => e = .returned (.tuple #[.int .i64 ((M.tb ov).went b a), .bool true]) ∧ IAt w' X (M.put ov ((M.tb ov).swap b a)) ∧ Kept [X.tv ov, X.td ov] w w' := by
  have H := hide h
  have hs := h.small
  have HH : Hid (decide (0 ≤ (b : Int) ∧ (1 : Int) ≤ 1 ∧ (1 : Int) ≤ M.b.l.length - b) = true) := hide (decide_eq_true (by omega))
  have HS : Hid (decide (1 ≤ a ∧ a < 4096) = true) := hide (decide_eq_true ⟨h1, h2⟩)
  have HSW := hide (swap_any (h.tab ov) b (by rw [h.tlen]; exact hb) a)
  have HB := hide hb
  clear h h1 h2 hb
  go_enter Try.func39, Try.ntmps39
  go_wp2_with fail
  refine (has_any H.out b 1 (by have := HB.out; omega)).mono ?_
  rintro e w' ⟨rfl, rfl⟩
  rw [HH.out]
  go_wp2_with fail
  refine (isSector_any a _).mono ?_
  rintro e w' ⟨rfl, rfl⟩
  rw [HS.out]
  go_wp2_with fail
  refine (table_any H.out ov).mono ?_
  rintro e w' ⟨rfl, rfl⟩
  go_wp2_with fail
  refine HSW.out.mono ?_
  rintro e w' ⟨rfl, ht, hk⟩
  have HT := hide ht
  have HK := hide hk
  clear ht hk
  go_wp2
  go_ret2
  exact ⟨rfl, H.out.turn ov HK.out HT.out ((M.tb ov).swap_len b a), HK.out⟩
theorem put_no (h : IAt w X M) (ov : Bool) (b a : Int) (hb : b ≤ 9223372036854775807) (hn : ¬ ((0 ≤ b ∧ b < M.b.l.length) ∧ (1 ≤ a ∧ a < 4096))) :
    Calls Try.prog 39 #[.pointer (some ⟨X.m, 0, none⟩), .bool ov, .int .i64 b, .int .i64 a] w fun e w' => e = .returned (.tuple #[.int .i64 0, .bool false]) ∧ w = w' := by
  have H := hide h
  by_cases hr : 0 ≤ b ∧ b < M.b.l.length
  · have HH : Hid (decide (0 ≤ b ∧ (1 : Int) ≤ 1 ∧ (1 : Int) ≤ M.b.l.length - b) = true) := hide (decide_eq_true (by omega))
    have HS : Hid (decide (1 ≤ a ∧ a < 4096) = false) := hide (decide_eq_false (fun k => hn ⟨hr, k⟩))
    clear h hn hr
    go_enter Try.func39, Try.ntmps39
    go_wp2_with fail
    refine (has_any H.out b 1 hb).mono ?_
    rintro e w' ⟨rfl, rfl⟩
    rw [HH.out]
    go_wp2_with fail
    refine (isSector_any a _).mono ?_
    rintro e w' ⟨rfl, rfl⟩
    rw [HS.out]
    go_wp2
    go_ret2
    exact ⟨rfl, rfl⟩
  · have HH : Hid (decide (0 ≤ b ∧ (1 : Int) ≤ 1 ∧ (1 : Int) ≤ M.b.l.length - b) = false) := hide (decide_eq_false (by omega))
    clear h hn hr
    go_enter Try.func39, Try.ntmps39
    go_wp2_with fail
    refine (has_any H.out b 1 hb).mono ?_
    rintro e w' ⟨rfl, rfl⟩
    rw [HH.out]
    go_wp2
    go_ret2
    exact ⟨rfl, rfl⟩
theorem iwrite_yes (h : IAt w X M) (b : Nat) (a : Int) (hb : b < M.b.l.length) (h1 : 1 ≤ a) (h2 : a < 4096) :
    Calls Try.prog 10 #[.pointer (some ⟨X.m, 0, none⟩), .int .i64 b, .int .i64 a] w fun e w' => e = .returned (.tuple #[.int .i64 ((M.tb true).went b a), .bool true]) ∧ IAt w' X (M.put true ((M.tb true).swap b a)) ∧ Kept [X.tv true, X.td true] w w' := by
  have HP := hide (put_yes h true b a hb h1 h2)
  clear h hb h1 h2
  go_enter Try.func10, Try.ntmps10
  go_wp2_with fail
  refine HP.out.mono ?_
  rintro e w' ⟨rfl, ht, hk⟩
  have HT := hide ht
  have HK := hide hk
  clear ht hk
  go_wp2
  go_ret2
  exact ⟨rfl, HT.out, HK.out⟩
theorem iwrite_no (h : IAt w X M) (b a : Int) (hb : b ≤ 9223372036854775807) (hn : ¬ ((0 ≤ b ∧ b < M.b.l.length) ∧ (1 ≤ a ∧ a < 4096))) :
    Calls Try.prog 10 #[.pointer (some ⟨X.m, 0, none⟩), .int .i64 b, .int .i64 a] w fun e w' => e = .returned (.tuple #[.int .i64 0, .bool false]) ∧ w = w' := by
  have HP := hide (put_no h true b a hb hn)
  clear h hb hn
  go_enter Try.func10, Try.ntmps10
  go_wp2_with fail
  refine HP.out.mono ?_
  rintro e w' ⟨rfl, rfl⟩
  go_wp2
  go_ret2
  exact ⟨rfl, rfl⟩
theorem iput_yes (h : IAt w X M) (b : Nat) (a : Int) (hb : b < M.b.l.length) (h1 : 1 ≤ a) (h2 : a < 4096) :
    Calls Try.prog 11 #[.pointer (some ⟨X.m, 0, none⟩), .int .i64 b, .int .i64 a] w fun e w' => e = .returned (.tuple #[.int .i64 ((M.tb false).went b a), .bool true]) ∧ IAt w' X (M.put false ((M.tb false).swap b a)) ∧ Kept [X.tv false, X.td false] w w' := by
  have HP := hide (put_yes h false b a hb h1 h2)
  clear h hb h1 h2
  go_enter Try.func11, Try.ntmps11
  go_wp2_with fail
  refine HP.out.mono ?_
  rintro e w' ⟨rfl, ht, hk⟩
  have HT := hide ht
  have HK := hide hk
  clear ht hk
  go_wp2
  go_ret2
  exact ⟨rfl, HT.out, HK.out⟩
theorem iput_no (h : IAt w X M) (b a : Int) (hb : b ≤ 9223372036854775807) (hn : ¬ ((0 ≤ b ∧ b < M.b.l.length) ∧ (1 ≤ a ∧ a < 4096))) :
    Calls Try.prog 11 #[.pointer (some ⟨X.m, 0, none⟩), .int .i64 b, .int .i64 a] w fun e w' => e = .returned (.tuple #[.int .i64 0, .bool false]) ∧ w = w' := by
  have HP := hide (put_no h false b a hb hn)
  clear h hb hn
  go_enter Try.func11, Try.ntmps11
  go_wp2_with fail
  refine HP.out.mono ?_
  rintro e w' ⟨rfl, rfl⟩
  go_wp2
  go_ret2
  exact ⟨rfl, rfl⟩
theorem getD_of {l : List Int} {b : Nat} (hb : b < l.length) : l[b]? = some (l.getD b 0) := by rw [List.getD_eq_getElem?_getD, List.getElem?_eq_getElem hb]; rfl
theorem ref_yes (h : IAt w X M) (b : Nat) (hb : b < M.b.l.length) :
    Calls Try.prog 29 #[.pointer (some ⟨X.m, 0, none⟩), .int .i64 b] w fun e w' => e = .returned (.tuple #[.int .i64 (M.b.l.getD b 0), .bool true]) ∧ w = w' := by
  have H := hide h
  have HG := hide (get_int_at h.base b b rfl _ (getD_of hb))
  generalize M.b.l.getD b 0 = x at HG ⊢
  clear h hb
  go_enter Try.func29, Try.ntmps29
  go_wp2_with fail
  refine (table_base H.out).mono ?_
  rintro e w' ⟨rfl, rfl⟩
  go_wp2_with fail
  refine HG.out.mono ?_
  rintro e w' ⟨rfl, rfl⟩
  go_wp2
  go_ret2
  exact ⟨rfl, rfl⟩
theorem look_yes (h : IAt w X M) (b : Nat) (hb : b < M.b.l.length) :
    Calls Try.prog 30 #[.pointer (some ⟨X.m, 0, none⟩), .int .i64 b] w fun e w' => e = .returned (.tuple #[.int .i64 (if M.o.l.getD b 0 = -1 then M.b.l.getD b 0 else M.o.l.getD b 0), .bool true]) ∧ w = w' := by
  have H := hide h
  have HG := hide (get_int_at h.over b b rfl _ (getD_of (by rw [h.len]; exact hb)))
  have HR := hide (ref_yes h b hb)
  generalize M.b.l.getD b 0 = x at HR ⊢
  generalize M.o.l.getD b 0 = y at HG ⊢
  clear h hb
  by_cases hy : y = -1
  · rw [if_pos hy]
    have hd : (y != -1) = false := by rw [bne_eq_false_iff_eq]; exact hy
    clear hy
    go_enter Try.func30, Try.ntmps30
    go_wp2_with fail
    refine (table_over H.out).mono ?_
    rintro e w' ⟨rfl, rfl⟩
    go_wp2_with fail
    refine HG.out.mono ?_
    rintro e w' ⟨rfl, rfl⟩
    go_wp2_with fail
    refine HR.out.mono ?_
    rintro e w' ⟨rfl, rfl⟩
    go_wp2
    go_ret2
    exact ⟨rfl, rfl⟩
  · rw [if_neg hy]
    have hd : (y != -1) = true := by rw [bne_iff_ne]; exact hy
    clear hy
    go_enter Try.func30, Try.ntmps30
    go_wp2_with fail
    refine (table_over H.out).mono ?_
    rintro e w' ⟨rfl, rfl⟩
    go_wp2_with fail
    refine HG.out.mono ?_
    rintro e w' ⟨rfl, rfl⟩
    go_wp2
    go_ret2
    exact ⟨rfl, rfl⟩
/-- Clean of both. -/
theorem clean_any (h : IAt w X M) :
    Calls Try.prog 22 #[.pointer (some ⟨X.m, 0, none⟩)] w fun e w' => e = .returned (.tuple #[]) ∧ IAt w' X ⟨⟨M.b.l, List.replicate M.b.d.length false⟩, ⟨M.o.l, List.replicate M.o.d.length false⟩⟩ ∧ Kept [X.D, X.E] w w' := by
  have H := hide h
  clear h
  go_enter Try.func22, Try.ntmps22
  go_wp2_with fail
  refine (table_base H.out).mono ?_
  rintro e w' ⟨rfl, rfl⟩
  go_wp2_with fail
  refine (clean_int H.out.base).mono ?_
  rintro e w1 ⟨rfl, ht, hk⟩
  have H1 := hide (H.out.turn false (t := ⟨M.b.l, List.replicate M.b.d.length false⟩) (hk.mono (by simp [Ib.tv, Ib.td])) ht rfl)
  have HK := hide hk
  clear ht hk
  go_wp2_with fail
  refine (table_over H1.out).mono ?_
  rintro e w' ⟨rfl, rfl⟩
  go_wp2_with fail
  refine (clean_int H1.out.over).mono ?_
  rintro e w2 ⟨rfl, ht, hk⟩
  have H2 := hide (H1.out.turn true (t := ⟨M.o.l, List.replicate M.o.d.length false⟩) (hk.mono (by simp [Ib.tv, Ib.td])) ht rfl)
  have HK2 := hide (HK.out.trans hk (S := [X.D]) (S' := [X.E]) |> fun _ => (HK.out.mono (S' := [X.D, X.E]) (by simp)).trans hk (by simp))
  clear ht hk
  go_wp2
  go_end0
  exact ⟨rfl, H2.out, HK2.out⟩
theorem ipage_yes (h : IAt w X M) (ov : Bool) (k : Nat) (hk : k < (M.tb ov).d.length) (b m : Nat) (hb : k * 15 = b) (hm : min (b + 15) M.b.l.length - b = m) :
    Calls Try.prog 53 #[.pointer (some ⟨X.m, 0, none⟩), .bool ov, .int .i64 k] w fun e w' => ∃ v, e = .returned v ∧ w'.ownsRow w.heap.size 3 1 v m ((((M.tb ov).l.drop b).take m).map I) ∧ Kept [] w w' := by
  have HT := hide (table_any h ov)
  have hp := pageOf_yes (h.tab ov) (oneCell_I _) k hk b m hb (by rw [List.length_map, h.tlen]; exact hm)
  rw [← List.map_drop, ← List.map_take] at hp
  have HP := hide hp
  clear h hk hb hm hp
  go_enter Try.func53, Try.ntmps53
  go_wp2_with fail
  refine HT.out.mono ?_
  rintro e w' ⟨rfl, rfl⟩
  go_wp2_with fail
  refine HP.out.mono ?_
  rintro e w' ⟨v, rfl, ho, hk⟩
  have HO := hide ho
  have HK := hide hk
  clear ho hk
  go_wp2
  go_ret
  exact ⟨_, rfl, HO.out, HK.out⟩
theorem ipage_no (h : IAt w X M) (ov : Bool) (k : Int) (hk : ¬ (0 ≤ k ∧ k < (M.tb ov).d.length)) :
    Calls Try.prog 53 #[.pointer (some ⟨X.m, 0, none⟩), .bool ov, .int .i64 k] w fun e w' => e = .returned (.slice none 0 0) ∧ w = w' := by
  have HT := hide (table_any h ov)
  have HP := hide (pageOf_no (h.tab ov) k hk)
  clear h hk
  go_enter Try.func53, Try.ntmps53
  go_wp2_with fail
  refine HT.out.mono ?_
  rintro e w' ⟨rfl, rfl⟩
  go_wp2_with fail
  refine HP.out.mono ?_
  rintro e w' ⟨rfl, rfl⟩
  go_wp2
  go_ret
  exact ⟨rfl, rfl⟩
end
/-- An image that is new. -/
def Im.fresh (n : Nat) : Im := ⟨⟨List.replicate n 0, List.replicate ((n + 15 - 1) / 15) false⟩, ⟨List.replicate n (-1), List.replicate ((n + 15 - 1) / 15) false⟩⟩
theorem inew_no (n : Int) (w : World) (h : ¬ (1 ≤ n ∧ n ≤ 64)) :
    Calls Try.prog 6 #[.int .i64 n] w fun e w' => e = .returned (.pointer none) ∧ w = w' := by
  by_cases h1 : 1 ≤ n
  · have h2 : ¬ n ≤ 64 := fun h2 => h ⟨h1, h2⟩
    have hd : decide (n > 64) = true := decide_eq_true (by omega)
    have hd2 : decide (n < 1) = false := decide_eq_false (by omega)
    clear h
    go_enter Try.func6, Try.ntmps6
    go_wp2
    go_ret
    exact ⟨rfl, rfl⟩
  · have hd2 : decide (n < 1) = true := decide_eq_true (by omega)
    clear h
    go_enter Try.func6, Try.ntmps6
    go_wp2
    go_ret
    exact ⟨rfl, rfl⟩
set_option maxRecDepth 100000 in
theorem inew_yes (n : Nat) (w : World) (h1 : 1 ≤ n) (h2 : n ≤ 64) :
    Calls Try.prog 6 #[.int .i64 n] w fun e w' => ∃ X : Ib, e = .returned (.pointer (some ⟨X.m, 0, none⟩)) ∧ (∀ y ∈ X.all, w.heap.size ≤ y) ∧ IAt w' X (Im.fresh n) ∧ Kept [] w w' := by
  have hd : decide ((n : Int) > 64) = false := decide_eq_false (by omega)
  have hd2 : decide ((n : Int) < 1) = false := decide_eq_false (by omega)
  obtain ⟨m, hm⟩ : ∃ m, m = (n + 15 - 1) / 15 := ⟨_, rfl⟩
  have HM := hide hm
  go_enter Try.func6, Try.ntmps6
  go_wp2_with fail
  refine (new_int_at n 15 0 _ n 15 m rfl rfl h1 (by omega) (by decide) (by decide) hm).mono ?_
  rintro e w1 ⟨p, V, D, rfl, hp, hV, hD, ht, hk⟩
  have HT := hide ht
  have HK := hide hk
  have HL := hide (show w.heap.size ≤ p ∧ w.heap.size ≤ V ∧ w.heap.size ≤ D from ⟨hp, hV, hD⟩)
  clear ht hk hp hV hD
  go_wp2_with fail
  refine (new_int_at n 15 (-1) _ n 15 m rfl rfl h1 (by omega) (by decide) (by decide) hm).mono ?_
  rintro e w2 ⟨q, U, E, rfl, hp, hV, hD, ht, hk⟩
  have HT2 := hide ht
  have HT1 := hide (HT.out.keep hk)
  have HK2 := hide (HK.out.trans hk (by simp))
  have HL2 := hide (show w1.heap.size ≤ q ∧ w1.heap.size ≤ U ∧ w1.heap.size ≤ E from ⟨hp, hV, hD⟩)
  clear ht hk hp hV hD hm
  go_wp2
  go_ret
  have l1 := HL.out
  have l2 := HL2.out
  have l3 := HK2.out.size
  have l4 := HK.out.size
  have a1 := HT.out.pl
  have a2 := HT.out.Vl
  have a3 := HT.out.Dl
  have b1 := HT2.out.pl
  have b2 := HT2.out.Vl
  have b3 := HT2.out.Dl
  have c1 := HT.out.pV
  have c2 := HT.out.pD
  have c3 := HT.out.VD
  have d1 := HT2.out.pV
  have d2 := HT2.out.pD
  have d3 := HT2.out.VD
  refine ⟨⟨w2.heap.size, p, V, D, q, U, E⟩, rfl, ?_, ⟨Blk.new w2 _ _, ?_, ?_, by simp [Im.fresh], by simp [Im.fresh]; exact h2, ?_⟩, HK2.out.alloc _⟩
  · intro y hy
    simp only [Ib.all, List.mem_cons, List.not_mem_nil, or_false] at hy
    rcases hy with rfl | rfl | rfl | rfl | rfl | rfl | rfl <;> omega
  · have := HT1.out.keep ((Kept.refl [] w2).alloc (.cells #[.pointer (some ⟨p, 0, none⟩), .pointer (some ⟨q, 0, none⟩)] 60))
    rw [HM.out] at this
    exact this
  · have := HT2.out.keep ((Kept.refl [] w2).alloc (.cells #[.pointer (some ⟨p, 0, none⟩), .pointer (some ⟨q, 0, none⟩)] 60))
    rw [HM.out] at this
    exact this
  · simp only [Ib.all, List.nodup_cons, List.mem_cons, List.not_mem_nil, or_false, not_or]
    refine ⟨⟨?_, ?_, ?_, ?_, ?_, ?_⟩, ⟨c1, c2, ?_, ?_, ?_⟩, ⟨c3, ?_, ?_, ?_⟩, ⟨?_, ?_, ?_⟩, ⟨d1, d2⟩, d3, by simp⟩ <;> omega
end Go.Proofs.Ytfeepmahipecpaa.im
