/- ImagePlays: each call, whatever its arguments. -/
import Derived.Test.YtfeepmahipecpaaImagePlaysAt
namespace Go.Proofs.Ytfeepmahipecpaa.im
set_option linter.unusedSimpArgs false
set_option linter.unusedVariables false
open Go.RowKit Go.Proofs.Ytfeepmahipecpaa.mem Go.Proofs.Ytfeepmahipecpaa.base Go.Proofs.Ytfeepmahipecpaa.pd Go.Proofs.Ytfeepmahipecpaa.owns
def lyR (M : Im) (ov : Bool) (b a : Int) : Im × Int × Bool := if (0 ≤ b ∧ b < M.b.l.length) ∧ (1 ≤ a ∧ a < 4096) then (M.put ov ((M.tb ov).swap b.toNat a), (M.tb ov).went b.toNat a, true) else (M, 0, false)
def cuR (M : Im) (ov : Bool) (b n : Int) : Im × List Int × Bool := if 0 ≤ b ∧ 1 ≤ n ∧ n ≤ M.b.l.length - b then (M.laid ov (likes b.toNat 0 n.toNat), M.gone ov (likes b.toNat 0 n.toNat), true) else (M, [], false)
def mvR (M : Im) (b old a : Int) : Im × Bool := if (0 ≤ b ∧ b < M.b.l.length) ∧ (1 ≤ a ∧ a < 4096) ∧ 1 ≤ old then M.move b.toNat old a else (M, false)
def pgM (M : Im) (k : Int) : Nat := min (k.toNat * 15 + 15) M.b.l.length - k.toNat * 15
def ldR (M : Im) (ov : Bool) (k : Int) (xs : List Int) : Im × Bool := if (0 ≤ k ∧ k < M.b.d.length) ∧ pgM M k ≤ xs.length ∧ (xs.take (pgM M k)).all (okRef ov) = true then (M.put ov ((M.tb ov).load k.toNat (k.toNat * 15) (xs.take (pgM M k))), true) else (M, false)
section
variable {w w' : World} {X : Ib} {p V U D E c : Nat} {M : Im}
theorem GM.ly (h : GM M) (ov : Bool) (b a : Int) : GM (lyR M ov b a).1 := by unfold lyR; split; exact h.put ov _ a (by omega); exact h
theorem GM.cu (h : GM M) (ov : Bool) (b n : Int) : GM (cuR M ov b n).1 := by unfold cuR; split; exact h.laid ov _ _; exact h
theorem GM.mv (h : GM M) (b old a : Int) : GM (mvR M b old a).1 := by unfold mvR; split; exact h.move _ old a (by omega); exact h
theorem GM.ld (h : GM M) (ov : Bool) (k : Int) (xs : List Int) : GM (ldR M ov k xs).1 := by
  unfold ldR
  split
  · rename_i hh
    exact h.load ov _ _ _ hh.2.2
  · exact h
theorem iwrite_all (h : IAt w X M) (b a : Int) (hb : b ≤ 9223372036854775807) :
    Calls Try.prog 10 #[.pointer (some ⟨X.m, 0, none⟩), .int .i64 b, .int .i64 a] w fun e w' => e = .returned (.tuple #[.int .i64 (lyR M true b a).2.1, .bool (lyR M true b a).2.2]) ∧ IAt w' X (lyR M true b a).1 ∧ Kept [X.V, X.D, X.U, X.E] w w' := by
  unfold lyR
  split
  · rename_i hh
    obtain ⟨k, rfl⟩ := Int.eq_ofNat_of_zero_le hh.1.1
    rw [show ((k : Int)).toNat = k from rfl]
    refine (iwrite_yes h k a (by omega) hh.2.1 hh.2.2).mono ?_
    rintro e w' ⟨rfl, h1, h2⟩
    exact ⟨rfl, h1, h2.mono (fun y hy => .inl (by simp [Ib.tv, Ib.td] at hy ⊢; rcases hy with hy | hy <;> simp [hy]))⟩
  · rename_i hh
    refine (iwrite_no h b a hb hh).mono ?_
    rintro e w' ⟨rfl, rfl⟩
    exact ⟨rfl, h, Kept.refl _ _⟩
theorem iput_all (h : IAt w X M) (b a : Int) (hb : b ≤ 9223372036854775807) :
    Calls Try.prog 11 #[.pointer (some ⟨X.m, 0, none⟩), .int .i64 b, .int .i64 a] w fun e w' => e = .returned (.tuple #[.int .i64 (lyR M false b a).2.1, .bool (lyR M false b a).2.2]) ∧ IAt w' X (lyR M false b a).1 ∧ Kept [X.V, X.D, X.U, X.E] w w' := by
  unfold lyR
  split
  · rename_i hh
    obtain ⟨k, rfl⟩ := Int.eq_ofNat_of_zero_le hh.1.1
    rw [show ((k : Int)).toNat = k from rfl]
    refine (iput_yes h k a (by omega) hh.2.1 hh.2.2).mono ?_
    rintro e w' ⟨rfl, h1, h2⟩
    exact ⟨rfl, h1, h2.mono (fun y hy => .inl (by simp [Ib.tv, Ib.td] at hy ⊢; rcases hy with hy | hy <;> simp [hy]))⟩
  · rename_i hh
    refine (iput_no h b a hb hh).mono ?_
    rintro e w' ⟨rfl, rfl⟩
    exact ⟨rfl, h, Kept.refl _ _⟩
theorem rlay_all (h : RI w p V U D E c M) (ov : Bool) (b a : Int) :
    Calls Try.prog 9 #[.pointer (some ⟨p, 0, none⟩), .bool ov, .int .i64 b, .int .i64 a] w fun e w' => e = .returned (.tuple #[.int .i64 (lyR M ov b a).2.1, .bool (lyR M ov b a).2.2]) ∧ RI w' p V U D E c (lyR M ov b a).1 ∧ Kept [V, U, D, E] w w' := by
  unfold lyR
  split
  · rename_i hh
    obtain ⟨k, rfl⟩ := Int.eq_ofNat_of_zero_le hh.1.1
    rw [show ((k : Int)).toNat = k from rfl]
    exact rlay_yes h ov k a (by omega) hh.2.1 hh.2.2
  · rename_i hh
    refine (rlay_no h ov b a hh).mono ?_
    rintro e w' ⟨rfl, rfl⟩
    exact ⟨rfl, h, Kept.refl _ _⟩
theorem itrim_all (h : IAt w X M) (b n : Int) (hb : b ≤ 9223372036854775807) :
    Calls Try.prog 13 #[.pointer (some ⟨X.m, 0, none⟩), .int .i64 b, .int .i64 n] w fun e w' => ∃ v, e = .returned (.tuple #[v, .bool (cuR M true b n).2.2]) ∧ w'.ownsRow w.heap.size 3 1 v (cuR M true b n).2.1.length ((cuR M true b n).2.1.map I) ∧ IAt w' X (cuR M true b n).1 ∧ Kept [X.V, X.D, X.U, X.E] w w' := by
  unfold cuR
  split
  · rename_i hh
    obtain ⟨k, rfl⟩ := Int.eq_ofNat_of_zero_le hh.1
    obtain ⟨m, rfl⟩ := Int.eq_ofNat_of_zero_le (show 0 ≤ n by omega)
    rw [show ((k : Int)).toNat = k from rfl, show ((m : Int)).toNat = m from rfl]
    refine (itrim_yes h k m (by omega) (by omega)).mono ?_
    rintro e w' ⟨v, rfl, h0, h1, h2⟩
    exact ⟨v, rfl, h0, h1, h2.mono (fun y hy => .inl (by simp [Ib.tv, Ib.td] at hy ⊢; rcases hy with hy | hy <;> simp [hy]))⟩
  · rename_i hh
    refine (itrim_no h b n hb hh).mono ?_
    rintro e w' ⟨rfl, rfl⟩
    exact ⟨_, rfl, World.ownsRow_nil _ _ _ _, h, Kept.refl _ _⟩
theorem idrop_all (h : IAt w X M) (b n : Int) (hb : b ≤ 9223372036854775807) :
    Calls Try.prog 14 #[.pointer (some ⟨X.m, 0, none⟩), .int .i64 b, .int .i64 n] w fun e w' => ∃ v, e = .returned (.tuple #[v, .bool (cuR M false b n).2.2]) ∧ w'.ownsRow w.heap.size 3 1 v (cuR M false b n).2.1.length ((cuR M false b n).2.1.map I) ∧ IAt w' X (cuR M false b n).1 ∧ Kept [X.V, X.D, X.U, X.E] w w' := by
  unfold cuR
  split
  · rename_i hh
    obtain ⟨k, rfl⟩ := Int.eq_ofNat_of_zero_le hh.1
    obtain ⟨m, rfl⟩ := Int.eq_ofNat_of_zero_le (show 0 ≤ n by omega)
    rw [show ((k : Int)).toNat = k from rfl, show ((m : Int)).toNat = m from rfl]
    refine (idrop_yes h k m (by omega) (by omega)).mono ?_
    rintro e w' ⟨v, rfl, h0, h1, h2⟩
    exact ⟨v, rfl, h0, h1, h2.mono (fun y hy => .inl (by simp [Ib.tv, Ib.td] at hy ⊢; rcases hy with hy | hy <;> simp [hy]))⟩
  · rename_i hh
    refine (idrop_no h b n hb hh).mono ?_
    rintro e w' ⟨rfl, rfl⟩
    exact ⟨_, rfl, World.ownsRow_nil _ _ _ _, h, Kept.refl _ _⟩
theorem rcut_all (h : RI w p V U D E c M) (ov : Bool) (b n : Int) (hb : -9223372036854775808 ≤ b ∧ b ≤ 9223372036854775807) :
    Calls Try.prog 12 #[.pointer (some ⟨p, 0, none⟩), .bool ov, .int .i64 b, .int .i64 n] w fun e w' => ∃ v, e = .returned (.tuple #[v, .bool (cuR M ov b n).2.2]) ∧ w'.ownsRow w.heap.size 3 1 v (cuR M ov b n).2.1.length ((cuR M ov b n).2.1.map I) ∧ RI w' p V U D E c (cuR M ov b n).1 ∧ Kept [V, U, D, E] w w' := by
  unfold cuR
  split
  · rename_i hh
    obtain ⟨k, rfl⟩ := Int.eq_ofNat_of_zero_le hh.1
    obtain ⟨m, rfl⟩ := Int.eq_ofNat_of_zero_le (show 0 ≤ n by omega)
    rw [show ((k : Int)).toNat = k from rfl, show ((m : Int)).toNat = m from rfl]
    exact rcut_yes h ov k m (by omega) (by omega)
  · rename_i hh
    refine (rcut_no h ov b n hh hb).mono ?_
    rintro e w' ⟨rfl, rfl⟩
    exact ⟨_, rfl, World.ownsRow_nil _ _ _ _, h, Kept.refl _ _⟩
theorem imove_all (h : IAt w X M) (b old a : Int) :
    Calls Try.prog 20 #[.pointer (some ⟨X.m, 0, none⟩), .int .i64 b, .int .i64 old, .int .i64 a] w fun e w' => e = .returned (.bool (mvR M b old a).2) ∧ IAt w' X (mvR M b old a).1 ∧ Kept [X.V, X.D, X.U, X.E] w w' := by
  unfold mvR
  split
  · rename_i hh
    obtain ⟨k, rfl⟩ := Int.eq_ofNat_of_zero_le hh.1.1
    rw [show ((k : Int)).toNat = k from rfl]
    exact move_in h k old a hh.2.2 hh.2.1.1 hh.2.1.2 (by omega)
  · rename_i hh
    by_cases h1 : 1 ≤ old ∧ 1 ≤ a ∧ a < 4096
    · exact move_out h b old a h1.1 h1.2.1 h1.2.2 (fun hb => hh ⟨hb, ⟨h1.2.1, h1.2.2⟩, h1.1⟩)
    · refine (move_bad h b old a h1).mono ?_
      rintro e w' ⟨rfl, rfl⟩
      exact ⟨rfl, h, Kept.refl _ _⟩
theorem rmove_all (h : RI w p V U D E c M) (b old a : Int) :
    Calls Try.prog 21 #[.pointer (some ⟨p, 0, none⟩), .int .i64 b, .int .i64 old, .int .i64 a] w fun e w' => e = .returned (.bool (mvR M b old a).2) ∧ RI w' p V U D E c (mvR M b old a).1 ∧ Kept [V, U, D, E] w w' := by
  unfold mvR
  split
  · rename_i hh
    obtain ⟨k, rfl⟩ := Int.eq_ofNat_of_zero_le hh.1.1
    rw [show ((k : Int)).toNat = k from rfl]
    exact rmove_in h k old a hh.2.2 hh.2.1.1 hh.2.1.2 (by omega)
  · rename_i hh
    refine (rmove_bad h b old a hh).mono ?_
    rintro e w' ⟨rfl, rfl⟩
    exact ⟨rfl, h, Kept.refl _ _⟩
theorem IAt.dl (h : IAt w X M) (ov : Bool) : (M.tb ov).d.length = M.b.d.length := by rw [h.dlen ov, show M.b.d.length = (M.tb false).d.length from rfl, h.dlen false]
theorem iload_all (h : IAt w X M) (ov : Bool) (k : Int) (A : Option Addr) (cc : Nat) (xs : List Int) (hc : xs.length ≤ cc) (hv : Vals w [] A (xs.map I)) :
    Calls Try.prog 24 #[.pointer (some ⟨X.m, 0, none⟩), .bool ov, .int .i64 k, .slice A xs.length cc] w fun e w' => e = .returned (.bool (ldR M ov k xs).2) ∧ IAt w' X (ldR M ov k xs).1 ∧ Kept [X.V, X.D, X.U, X.E] w w' := by
  by_cases hk : 0 ≤ k ∧ k < M.b.d.length
  · obtain ⟨j, rfl⟩ := Int.eq_ofNat_of_zero_le hk.1
    have hjm : j < (M.tb ov).d.length := by rw [h.dl]; omega
    have hpm : pgM M (j : Int) = min (j * 15 + 15) M.b.l.length - j * 15 := rfl
    by_cases hl : xs.length < pgM M (j : Int)
    · refine (iload_short h ov j hjm (j * 15) _ rfl rfl A xs.length cc (by omega)).mono ?_
      rintro e w' ⟨rfl, hk2⟩
      unfold ldR
      rw [if_neg (by omega)]
      exact ⟨rfl, h.keep hk2, hk2.mono (by simp)⟩
    · refine (iload_any h ov j hjm (j * 15) _ rfl rfl A xs.length cc hc (by omega) xs rfl hv).mono ?_
      rw [← hpm]
      rintro e w' ⟨rfl, hp⟩
      unfold ldR LoadPost at *
      by_cases hq : (xs.take (pgM M (j : Int))).all (okRef ov) = true
      · rw [if_pos hq] at hp
        rw [if_pos ⟨hk, by omega, hq⟩, hq]
        exact ⟨rfl, hp.1, hp.2.mono (fun y hy => .inl (by cases ov <;> simp [Ib.tv, Ib.td] at hy ⊢ <;> rcases hy with hy | hy <;> simp [hy]))⟩
      · rw [if_neg hq] at hp
        rw [if_neg (fun hh => hq hh.2.2), Bool.eq_false_iff.2 hq]
        exact ⟨rfl, h.keep hp, hp.mono (by simp)⟩
  · refine (iload_none h ov k (by rw [h.dl]; exact hk) A xs.length cc hc).mono ?_
    rintro e w' ⟨rfl, hk2⟩
    unfold ldR
    rw [if_neg (fun hh => hk hh.1)]
    exact ⟨rfl, h.keep hk2, hk2.mono (by simp)⟩
theorem rload_all (h : RI w p V U D E c M) (ov : Bool) (k : Int) (A : Option Addr) (cc : Nat) (xs : List Int) (hc : xs.length ≤ cc) (hv : Vals w [] A (xs.map I)) :
    Calls Try.prog 25 #[.pointer (some ⟨p, 0, none⟩), .bool ov, .int .i64 k, .slice A xs.length cc] w fun e w' => e = .returned (.bool (ldR M ov k xs).2) ∧ RI w' p V U D E c (ldR M ov k xs).1 ∧ Kept [V, U, D, E] w w' := by
  by_cases hk : 0 ≤ k ∧ k < M.b.d.length
  · obtain ⟨j, rfl⟩ := Int.eq_ofNat_of_zero_le hk.1
    have hpm : pgM M (j : Int) = min (j * 15 + 15) M.b.l.length - j * 15 := rfl
    by_cases hl : xs.length < pgM M (j : Int)
    · refine (rload_short h ov j (by omega) (j * 15) _ rfl rfl A xs.length cc (by omega)).mono ?_
      rintro e w' ⟨rfl, hk2⟩
      unfold ldR
      rw [if_neg (by omega)]
      exact ⟨rfl, h.keep hk2, hk2.mono (by simp)⟩
    · refine (rload_any h ov j (by omega) (j * 15) _ rfl rfl A xs.length cc hc (by omega) xs rfl hv).mono ?_
      rw [← hpm]
      rintro e w' ⟨rfl, hp⟩
      unfold ldR RLoadPost at *
      by_cases hq : (xs.take (pgM M (j : Int))).all (okRef ov) = true
      · rw [if_pos hq] at hp
        rw [if_pos ⟨hk, by omega, hq⟩, hq]
        exact ⟨rfl, hp.1, hp.2⟩
      · rw [if_neg hq] at hp
        rw [if_neg (fun hh => hq hh.2.2), Bool.eq_false_iff.2 hq]
        exact ⟨rfl, h.keep hp, hp.mono (by simp)⟩
  · refine (rload_none h ov k hk A xs.length cc).mono ?_
    rintro e w' ⟨rfl, rfl⟩
    unfold ldR
    rw [if_neg (fun hh => hk hh.1)]
    exact ⟨rfl, h, Kept.refl _ _⟩
end
end Go.Proofs.Ytfeepmahipecpaa.im
