/- The laws' own example. -/
import Derived.Test.YthjhegjbpfbbdaaPageDec
namespace Go.Proofs.Ythjhegjbpfbbdaa.pg
open Go.RowKit Go.Proofs.Ythjhegjbpfbbdaa.mem Go.Proofs.Ythjhegjbpfbbdaa.row Go.Proofs.Ythjhegjbpfbbdaa.rowBack Go.Proofs.Ythjhegjbpfbbdaa.fill Go.Proofs.Ythjhegjbpfbbdaa.crc Go.Proofs.Ythjhegjbpfbbdaa.crcMath

def exL : List Int := [5, -1, 258]
theorem ex_may : may exL = true := by decide
theorem ex_may_no : encode [4096] = ([], 1) := if_neg (by decide)
theorem ex_enc : encode exL = (bytes exL, 0) := if_pos ex_may
theorem ex_len : (bytes exL).length = 64 := bytes_len exL (by decide)
theorem ex_at (i : Nat) (x : UInt8) (h : (body exL)[i]? = some x) : (bytes exL)[i]? = some x := by
  unfold bytes
  rw [List.getElem?_append_left (List.getElem?_eq_some_iff.1 h).1]
  exact h
theorem ex_0 : (bytes exL)[0]? = some 5 := ex_at 0 5 (by decide +kernel)
theorem ex_4 : (bytes exL)[4]? = some 255 := ex_at 4 255 (by decide +kernel)
theorem ex_8 : (bytes exL)[8]? = some 2 := ex_at 8 2 (by decide +kernel)
theorem ex_9 : (bytes exL)[9]? = some 1 := ex_at 9 1 (by decide +kernel)
theorem ex_full : full exL = [5, -1, 258, 0, 0, 0, 0, 0, 0, 0, 0, 0, 0, 0, 0] := by decide
theorem zeros_no : decode (List.replicate 64 0) = ([], 2) := by decide +kernel
theorem ex_dec : decode (bytes exL) = (full exL, 0) := decode_bytes exL ex_may

set_option maxRecDepth 100000 in
set_option maxHeartbeats 1000000 in
theorem awake_any (w : World) : Calls Try.prog 6 #[] w fun e w' => e = .returned (.bool true) ∧ Kept [] w w' := by
  go_enter Try.func6, Try.ntmps6
  go_wp2_with fail
  refine (encode_any (some ⟨w.heap.size, 0, none⟩) 3 3 exL _ (Vals.lit w [] _ _ _ (exL.map I) rfl (by simp)) rfl).mono ?_
  rintro e w2 ⟨A2, n2, c2, rfl, hn2, hn, hk⟩
  rw [ex_enc] at hn2 hn ⊢
  rw [ex_len] at hn2
  subst hn2
  have HK2 := hide ((Kept.refl [] w).lit _ hk (by simp))
  have hA := hn.nil0
  obtain ⟨b2, rfl, _, harr⟩ := hn.pos (by rw [ex_len]; omega)
  have HR2 := hide harr
  have hv2 := harr.vals (S := []) (by simp)
  have HA2 := hide hA
  clear hk hn harr hA
  go_wp2_with fail
  refine (decode_any (some ⟨b2, 0, none⟩) 64 c2 (bytes exL) _ hv2 ex_len HA2.out (by omega)).mono ?_
  rintro e w3 ⟨A3, n3, c3, rfl, hn3, hv3, hk⟩
  rw [ex_dec] at hn3 hv3 ⊢
  rw [show (full exL).length = 15 by rw [ex_full]; rfl] at hn3
  subst hn3
  have hv3' := hv3 [] (by simp)
  have HK3 := hide (HK2.out.trans hk (by simp))
  have HR3 := hide (HR2.out.kept hk (by simp))
  have HV3 := hide hv3'
  clear hk hv2 hv3 hv3' HK2 HR2 HA2
  obtain ⟨w5, hw5⟩ : ∃ w5, w3.alloc (.cells (madeCells #[.int .u8 0] 64) 5) = w5 := ⟨_, rfl⟩
  have hk5 : Kept [] w3 w5 := by rw [← hw5]; exact (Kept.refl [] w3).alloc _
  obtain ⟨z, hz⟩ : ∃ z, w3.heap.size = z := ⟨_, rfl⟩
  have hv5 : Vals w5 [] (some ⟨w3.heap.size, 0, none⟩) ((List.replicate 64 0).map B) := by rw [← hw5]; exact base.vals_made w3 [] 64 (by simp)
  have HK5 := hide (HK3.out.trans hk5 (by simp))
  have HR5 := hide (HR3.out.kept hk5 (by simp))
  have HV5 := hide (HV3.out.kept hk5 (by simp))
  rw [hz] at hv5
  have HZ5 := hide hv5
  clear hk5 hv5 HK3 HR3 HV3
  have hmk := run_make_row' (P := Try.prog) 23 5 (.int .u8 0) 1 (by kernel_rfl) (by kernel_rfl) rfl .i64 .i64 64 (by omega) (by omega) w3
  rw [hw5, hz, show ((64 : Nat) : Int) = 64 from rfl] at hmk
  go_wp2_with fail
  refine (decode_any (some ⟨z, 0, none⟩) 64 64 (List.replicate 64 0) _ HZ5.out List.length_replicate (by simp) (by omega)).mono ?_
  rintro e w6 ⟨A6, n6, c6, rfl, hn6, hv6, hk⟩
  rw [zeros_no] at hn6 hv6 ⊢
  have HK6 := hide (HK5.out.trans hk (by simp))
  have HR6 := hide (HR5.out.kept hk (by simp))
  have HV6 := hide (HV5.out.kept hk (by simp))
  clear hmk hk hn6 hv6 HK5 HR5 HV5 HZ5 hw5 hz
  go_wp2_with fail
  refine (encode_any (some ⟨w6.heap.size, 0, none⟩) 1 1 [4096] _ (Vals.lit w6 [] _ _ _ ([4096].map I) rfl (by simp)) rfl).mono ?_
  rintro e w7 ⟨A7, n7, c7, rfl, hn7, hn, hk⟩
  rw [ex_may_no] at hn7 hn ⊢
  have hk67 := (Kept.refl [] w6).lit _ hk (by simp)
  have HK7 := hide (HK6.out.trans hk67 (by simp))
  have harr := HR6.out.kept hk67 (by simp)
  have hv := HV6.out.kept hk67 (by simp)
  have r0 := harr.at_ ex_0
  have r4 := harr.at_ ex_4
  have r8 := harr.at_ ex_8
  have r9 := harr.at_ ex_9
  obtain ⟨ad, rfl, _, s1⟩ := hv 1 (I (-1)) (by rw [ex_full]; rfl)
  obtain ⟨ad', h', _, s3⟩ := hv 3 (I 0) (by rw [ex_full]; rfl)
  cases h'
  unfold B at r0 r4 r8 r9
  unfold I at s1 s3
  rw [add_pos ad 1 (by omega)] at s1
  rw [add_pos ad 3 (by omega)] at s3
  clear hk hk67 harr hv hn7 hn HK6 HR6 HV6
  go_wp2
  go_ret
  exact ⟨rfl, HK7.out⟩
end Go.Proofs.Ythjhegjbpfbbdaa.pg
