/- The statements' same: both tables stand alike. -/
import Derived.Test.YtjcnndnipnkhoaaUsageAlike
import Derived.Test.YtjcnndnipnkhoaaUsageSealed
import Derived.Test.YtjcnndnipnkhoaaUsageFree
import Derived.Test.YtjcnndnipnkhoaaUsageUses
import Derived.Test.YtjcnndnipnkhoaaUsageRefB
import Derived.Test.YtjcnndnipnkhoaaUsageRefC
import Derived.Test.YtjcnndnipnkhoaaUsageRefD
import Derived.Test.YtjcnndnipnkhoaaPageAlike
import Derived.Deep.RegionHeld3
namespace Go.Proofs.Ytjcnndnipnkhoaa.us
set_option linter.unusedSimpArgs false
open Go.RowKit Go.Proofs.Ytjcnndnipnkhoaa.mem Go.Proofs.Ytjcnndnipnkhoaa.base Go.Proofs.Ytjcnndnipnkhoaa.geom

theorem held_use {a W W' : World} {g : Nat} {x y : Value} (h : Kept [] a W ∧ W.cell? ⟨g, 0, none⟩ = some x ∧ W.cell? ⟨g, 1, none⟩ = some y) (k : Kept [] W W') : Kept [] a W' ∧ W'.cell? ⟨g, 0, none⟩ = some x ∧ W'.cell? ⟨g, 1, none⟩ = some y :=
  ⟨h.1.trans k (by simp), k.cell h.2.1 (by simp), k.cell h.2.2 (by simp)⟩

theorem rlives_k {w : World} {p U L : Nat} {b s l r q : Int} {rs : List Rw} (h : RAt w p U L b s l r q rs) (i : Int) :
    Calls Try.prog 44 #[.pointer (some ⟨p, 0, none⟩), .int .i64 i] w fun e w' => e = .returned (.int .i64 (rowAt rs i).n) ∧ Kept [] w w' :=
  (rlives_any h i).mono fun _ _ ⟨he, hw⟩ => ⟨he, hw ▸ Kept.refl [] _⟩

set_option maxRecDepth 100000 in
set_option maxHeartbeats 2000000 in
theorem same_any {w : World} {p V p2 U L : Nat} {b s l r q : Int} {rs : List Rw} (hT : TAt w p V b s l r q rs) (hR : RAt w p2 U L b s l r q rs) :
    Calls Try.prog 12 #[.pointer (some ⟨p, 0, none⟩), .pointer (some ⟨p2, 0, none⟩)] w fun e w' => e = .returned (.bool true) ∧ Kept [] w w' := by
  have HT := hide hT
  have HR := hide hR
  have hb := hT.bounds
  obtain ⟨n, hn⟩ : ∃ n, rs.length = n := ⟨_, rfl⟩
  have HN := hide hn
  rw [hn] at hb
  clear hT hR hn
  go_enter Try.func12, Try.ntmps12
  go_wp2
  go_loopw [5, 6] (fun i u wr => ∃ z : Int, -1 ≤ z ∧ z ≤ n + 1 ∧ i = .int .i64 z ∧ Hid (Kept [] w wr)) (fun i u _ => ((n : Int) + 1 - intOf i).toNat)
  case atStart => exact ⟨-1, by omega, by omega, rfl, hide (Kept.refl _ _)⟩
  case round =>
    obtain ⟨z, hz1, hz2, rfl, HK⟩ := hrel
    have c1 := (HR.out.keep HK.out).c1
    rw [HN.out] at c1
    by_cases hlt : z ≤ n
    · have hw1 : IntKind.i64.wrap (z + 1) = z + 1 := IntWalk.i64_in _ (by omega)
      obtain ⟨x, hx⟩ : ∃ x, rowAt rs z = x := ⟨_, rfl⟩
      have HX := hide hx
      clear hx
      go_wp2_with fail
      refine (ruse_any (HR.out.keep HK.out) z).mono ?_
      rintro e w3 ⟨rfl, hk3⟩
      rw [HX.out]
      have HK3 := hide (HK.out.trans hk3 (by simp))
      have hba : Blk (w3.alloc (.cells #[.int .i64 x.s, .int .i64 x.t] 61)) w3.heap.size 61 #[.int .i64 x.s, .int .i64 x.t] := Blk.new _ _ _
      have hka : Kept [] w (w3.alloc (.cells #[.int .i64 x.s, .int .i64 x.t] 61)) := HK3.out.alloc _
      obtain ⟨g, hg⟩ : ∃ g, w3.heap.size = g := ⟨_, rfl⟩
      obtain ⟨w4, hw4⟩ : ∃ w4, w3.alloc (.cells #[.int .i64 x.s, .int .i64 x.t] 61) = w4 := ⟨_, rfl⟩
      rw [hw4] at hba hka
      rw [hg] at hba
      have a0 : w4.cell? ⟨g, 0, none⟩ = some (.int .i64 x.s) := hba.cell 0
      have a1 : w4.cell? ⟨g, 1, none⟩ = some (.int .i64 x.t) := hba.cell 1
      clear hk3 hba c1
      go_wp2
      go_region_held3 (fun W => Kept [] w W ∧ W.cell? ⟨g, 0, none⟩ = some (.int .i64 x.s) ∧ W.cell? ⟨g, 1, none⟩ = some (.int .i64 x.t))
        (first | exact ⟨hka.drew, a0, a1⟩ | exact held_use (by assumption) hk | assumption)
        (first
          | (go_at_call 27; have hS := ‹Kept [] w _ ∧ _›; refine (state_any (HT.out.keep hS.1) z).mono ?_; rintro e wn ⟨rfl, hk⟩; rw [HX.out])
          | (go_at_call 43; have hS := ‹Kept [] w _ ∧ _›; refine (stamp_any (HT.out.keep hS.1) z).mono ?_; rintro e wn ⟨rfl, hk⟩; rw [HX.out])
          | (go_at_call 31; have hS := ‹Kept [] w _ ∧ _›; refine (live_any (HT.out.keep hS.1) z).mono ?_; rintro e wn ⟨rfl, hk⟩; rw [HX.out])
          | (go_at_call 44; have hS := ‹Kept [] w _ ∧ _›; refine (rlives_k (HR.out.keep hS.1) z).mono ?_; rintro e wn ⟨rfl, hk⟩; rw [HX.out]))
      have hS := ‹Kept [] w _ ∧ _›
      have HK5 := hide hS.1
      clear hS
      go_wp2
      go_roundw
      case rel => exact ⟨z + 1, by omega, by omega, rfl, HK5⟩
      case measure => simp [intOf]; omega
    · have HL0 := hide (inState_length rs 0 rs.length)
      have hl2 := inState_length rs 2 rs.length
      rw [HN.out] at hl2
      have ht99 : ((inState rs 2 rs.length).take (99 : Int).toNat) = inState rs 2 rs.length := List.take_of_length_le (by rw [HN.out]; exact Nat.le_trans hl2 (by omega))
      have HT99 := hide ht99
      have HL2 := hide hl2
      have hdl : Hid ((rs.map (tell false)).length = n) := hide (by rw [List.length_map]; exact HN.out)
      have hdt : Hid ((rs.map (tell true)).length = n) := hide (by rw [List.length_map]; exact HN.out)
      have HT2 := hide (HT.out.keep HK.out)
      have HR2 := hide (HR.out.keep HK.out)
      have HKK := HK
      clear ht99 hl2
      go_wp2_with fail
      refine (free_any _ rs (by rw [HN.out]; omega) _ (.inr ⟨p, V, b, s, l, r, q, rfl, HT2.out⟩)).mono ?_
      rintro e w2 ⟨rfl, hk⟩
      have HT3 := hide (HT2.out.keep hk)
      have HR3 := hide (HR2.out.keep hk)
      have HK3 := hide (HKK.out.trans hk (by simp))
      clear hk HT2 HR2 HKK
      go_wp2_with fail
      refine (rfree_any HR3.out).mono ?_
      rintro e w2' ⟨rfl, rfl⟩
      go_wp2_with fail
      refine (uses_any HT3.out false).mono ?_
      rintro e w4 ⟨g, rfl, hg, hbg, hk⟩
      have HT4 := hide (HT3.out.keep hk)
      have HR4 := hide (HR3.out.keep hk)
      have HK4 := hide (HK3.out.trans hk (by simp))
      have HV4 : Hid (Vals w4 [] (some ⟨g, 0, none⟩) (usesOf (rs.map (tell false)))) := hide (Vals.blk 0 hbg (by simp) (fun i v hv => by simpa using hv))
      rw [HN.out]
      clear hk hg hbg HT3 HR3 HK3
      go_wp2_with fail
      refine (rtold_any HR4.out false).mono ?_
      rintro e w5 ⟨A5, c5, rfl, hv5, hk⟩
      rw [HN.out]
      have HT5 := hide (HT4.out.keep hk)
      have HR5 := hide (HR4.out.keep hk)
      have HK5 := hide (HK4.out.trans hk (by simp))
      have HV5 := hide hv5
      have HV45 := hide (HV4.out.kept hk (by simp))
      clear hk hv5 HT4 HR4 HK4 HV4
      go_wp2_with fail
      refine (alike_any _ _ n _ _ _ _ hdl.out HV45.out HV5.out (by omega)).mono ?_
      rintro e w6 ⟨rfl, hk⟩
      have HT6 := hide (HT5.out.keep hk)
      have HR6 := hide (HR5.out.keep hk)
      have HK6 := hide (HK5.out.trans hk (by simp))
      clear hk HT5 HR5 HK5 HV5 HV45
      go_wp2_with fail
      refine (uses_any HT6.out true).mono ?_
      rintro e w7 ⟨g7, rfl, hg, hbg, hk⟩
      have HT7 := hide (HT6.out.keep hk)
      have HR7 := hide (HR6.out.keep hk)
      have HK7 := hide (HK6.out.trans hk (by simp))
      have HV7 : Hid (Vals w7 [] (some ⟨g7, 0, none⟩) (usesOf (rs.map (tell true)))) := hide (Vals.blk 0 hbg (by simp) (fun i v hv => by simpa using hv))
      rw [HN.out]
      clear hk hg hbg HT6 HR6 HK6
      go_wp2_with fail
      refine (rtold_any HR7.out true).mono ?_
      rintro e w8 ⟨A8, c8, rfl, hv8, hk⟩
      rw [HN.out]
      have HT8 := hide (HT7.out.keep hk)
      have HR8 := hide (HR7.out.keep hk)
      have HK8 := hide (HK7.out.trans hk (by simp))
      have HV8 := hide hv8
      have HV78 := hide (HV7.out.kept hk (by simp))
      clear hk hv8 HT7 HR7 HK7 HV7
      go_wp2_with fail
      refine (alike_any _ _ n _ _ _ _ hdt.out HV78.out HV8.out (by omega)).mono ?_
      rintro e w9 ⟨rfl, hk⟩
      have HT9 := hide (HT8.out.keep hk)
      have HR9 := hide (HR8.out.keep hk)
      have HK9 := hide (HK8.out.trans hk (by simp))
      clear hk HT8 HR8 HK8 HV8 HV78
      go_wp2_with fail
      refine (sealed_any _ rs (by rw [HN.out]; omega) 99 _ (.inr ⟨p, V, b, s, l, r, q, rfl, HT9.out⟩)).mono ?_
      rintro e wa ⟨v, rfl, ho, hk⟩
      rw [HT99.out] at ho
      obtain ⟨Aa, ca, rfl, _, hva⟩ := owns.own_read ho
      have HVA := hide (hva [] (by simp))
      have HRA := hide (HR9.out.keep hk)
      have HKA := hide (HK9.out.trans hk (by simp))
      clear hk ho hva HT9 HR9 HK9
      go_wp2_with fail
      refine (rsealed_any HRA.out).mono ?_
      rintro e wb ⟨Ab, cb, rfl, hvb, hk⟩
      have HVB := hide (hvb [] (by simp))
      have HVAB := hide (HVA.out.kept hk (by simp))
      have HKB := hide (HKA.out.trans hk (by simp))
      clear hk hvb HRA HKA HVA
      obtain ⟨m, hm⟩ : ∃ m, (inState rs 2 rs.length).length = m := ⟨_, rfl⟩
      have HM := hide hm
      have hle := HL2.out
      rw [HN.out] at HM
      rw [hm]
      clear hm
      go_wp2_with fail
      refine (pg.ints_any _ _ m m _ _ _ _ _ (by rw [HN.out]; exact HM.out) (by rw [HN.out]; exact HM.out) HVAB.out HVB.out (by have := HM.out; omega)).mono ?_
      rintro e wc ⟨rfl, hk⟩
      rw [decide_eq_true (rfl : inState rs 2 rs.length = inState rs 2 rs.length)]
      have HKC := hide (HKB.out.trans hk (by simp))
      clear hk
      go_wp2
      go_ret
      exact ⟨rfl, HKC.out⟩
end Go.Proofs.Ytjcnndnipnkhoaa.us
