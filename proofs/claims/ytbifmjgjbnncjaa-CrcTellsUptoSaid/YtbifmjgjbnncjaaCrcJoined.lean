/- The law's own joined and few: parts one behind the other, where they are few enough. -/
import Derived.Test.YtbifmjgjbnncjaaCrcAwake
namespace Go.Proofs.Ytbifmjgjbnncjaa.crc
open Go.RowKit Go.Proofs.Ytbifmjgjbnncjaa.mem Go.Proofs.Ytbifmjgjbnncjaa.base Go.Proofs.Ytbifmjgjbnncjaa.crcMath

theorem info8 : (Try.prog.info? 5).map (fun i => (i.zero, i.size, i.bytes)) = some (some (.int .u8 0), 1, 1) := by kernel_rfl

theorem flat_le (bss : List (List UInt8)) (k : Nat) : (bss.take k).flatten.length ≤ bss.flatten.length := by
  conv => rhs; rw [← List.take_append_drop k bss, List.flatten_append, List.length_append]
  omega

set_option maxRecDepth 100000 in
set_option maxHeartbeats 1000000 in
theorem joined_any (L : Option Addr) (m d : Nat) (bss : List (List UInt8)) (w : World) (hv : Parts w L bss) (hl : bss.length = m) (hm : m ≤ 20) (hs : bss.flatten.length ≤ 1048576) :
    Calls Try.prog 11 #[.slice L m d] w fun e w' => ∃ A c, e = .returned (.slice A bss.flatten.length c) ∧ Vals w' [] A (bss.flatten.map B) ∧ Kept [] w w' := by
  have HV := hide hv
  have HL := hide hl
  have HS := hide hs
  clear hv hl hs
  go_enter Try.func11, Try.ntmps11
  go_wp2
  go_loopw [3, 4] (fun v i wr => ∃ k : Nat, k ≤ m ∧ i = .int .i64 k ∧ Hid (wr.ownsRow w.heap.size 5 1 v (bss.take k).flatten.length ((bss.take k).flatten.map B)) ∧ Hid (Kept [] w wr)) (fun v i wr => m - (intOf i).toNat)
  case atStart => exact ⟨0, by omega, rfl, hide (World.ownsRow_nil _ _ _ _), hide (Kept.refl _ _)⟩
  case round =>
    obtain ⟨k, hk, rfl, HO, HK⟩ := hrel
    by_cases hlt : k < m
    · have hkl : k < bss.length := by rw [HL.out]; exact hlt
      have hx : bss[k]? = some bss[k] := List.getElem?_eq_getElem hkl
      obtain ⟨ad, Ai, ci, rfl, hc, hmi, hvi⟩ := (HV.out.kept HK.out).at_ k _ hx
      have HF := hide (flat_take bss k _ hx)
      have HB : Hid ((bss.take k).flatten.length + bss[k].length ≤ 1048576) := hide (by
        have h1 := flat_le bss (k + 1)
        rw [flat_take bss k _ hx, List.length_append] at h1
        have := HS.out
        omega)
      have HVi := hide hvi
      clear hvi hx hmi
      generalize bss[k] = bs at *
      generalize hN : (bss.take k).flatten = N at *
      go_wp2_with (at_builtin; refine wpList_append_vals rfl (.tmp 11) (.tmp 15) 23 rfl w.heap.size 5 (.int .u8 0) 1 1 Try.underlying23 info8 rfl (by omega) u3 N.length (N.map B) rfl HO.out [] Ai bs.length ci (bs.map B) rfl (by simp) HVi.out (oneCell_B bs) (by have := HB.out; simp only [maxLen]; omega) (by have := HB.out; omega) HK.out.size ?_; intro v1 w1 hown1 hk1 hat1)
      have K1 := kept_mid HO.out (Nat.le_refl _) HK.out hk1
      exact ⟨⟨k + 1, by omega, by go_num, hide (by rw [HF.out, List.length_append, List.map_append]; exact hown1), hide K1⟩, by simp [intOf]; omega⟩
    · obtain rfl : k = m := by omega
      have hz : bss.take k = bss := List.take_of_length_le (by rw [HL.out]; exact Nat.le_refl _)
      rw [hz] at HO
      obtain ⟨A0, c0, rfl, hnc0, _, hVv, _⟩ := own_slice HO.out
      go_wp2
      go_ret
      exact ⟨A0, c0, rfl, hVv [] (by simp), HK.out⟩

theorem joined_at (L : Option Addr) (m d N : Nat) (bss : List (List UInt8)) (w : World) (hN : bss.flatten.length = N) (hv : Parts w L bss) (hl : bss.length = m) (hm : m ≤ 20) (hs : bss.flatten.length ≤ 1048576) :
    Calls Try.prog 11 #[.slice L m d] w fun e w' => ∃ A c, e = .returned (.slice A N c) ∧ Vals w' [] A (bss.flatten.map B) ∧ Kept [] w w' := by
  subst hN
  exact joined_any L m d bss w hv hl hm hs

set_option maxRecDepth 100000 in
theorem few_long (L : Option Addr) (m d : Nat) (w : World) (hm : 20 < m) :
    Calls Try.prog 7 #[.slice L m d] w fun e w' => e = .returned (.bool false) ∧ w = w' := by
  go_enter Try.func7, Try.ntmps7
  go_wp2
  go_ret
  exact ⟨rfl, rfl⟩

set_option maxRecDepth 100000 in
theorem few_short (L : Option Addr) (m d : Nat) (bss : List (List UInt8)) (w : World) (hv : Parts w L bss) (hl : bss.length = m) (hm : m ≤ 20) (hs : bss.flatten.length ≤ 1048576) :
    Calls Try.prog 7 #[.slice L m d] w fun e w' => e = .returned (.bool (decide (bss.flatten.length ≤ 2000))) ∧ Kept [] w w' := by
  have HV := hide hv
  have HL := hide hl
  have HS := hide hs
  clear hv hl hs
  obtain ⟨N, hN⟩ : ∃ N, bss.flatten.length = N := ⟨_, rfl⟩
  rw [hN]
  have HN := hide hN
  clear hN
  go_enter Try.func7, Try.ntmps7
  go_wp2_with fail
  refine (joined_any L m d bss _ HV.out HL.out hm HS.out).mono ?_
  rintro e w1 ⟨A, c, rfl, hv1, hk1⟩
  rw [HN.out]
  have HK := hide hk1
  clear hv1 hk1
  go_wp2
  go_ret
  exact ⟨congrArg (fun b => Ending.returned (.bool b)) (decide_eq_decide.2 (by omega) : decide ((N : Int) ≤ 2000) = decide (N ≤ 2000)), HK.out⟩
end Go.Proofs.Ytbifmjgjbnncjaa.crc
