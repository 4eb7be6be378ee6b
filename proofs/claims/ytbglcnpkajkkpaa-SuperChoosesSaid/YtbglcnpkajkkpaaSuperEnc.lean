/- Package super: seal, Encode. -/
import Derived.Test.YtbglcnpkajkkpaaSuperSmall
import Derived.Test.YtbglcnpkajkkpaaCrcAwake
import Derived.Test.YtbglcnpkajkkpaaFar
namespace Go.Proofs.Ytbglcnpkajkkpaa.super
open Go.RowKit Go.Proofs.Ytbglcnpkajkkpaa.mem Go.Proofs.Ytbglcnpkajkkpaa.base Go.Proofs.Ytbglcnpkajkkpaa.row Go.Proofs.Ytbglcnpkajkkpaa.rowBack Go.Proofs.Ytbglcnpkajkkpaa.fill Go.Proofs.Ytbglcnpkajkkpaa.crc Go.Proofs.Ytbglcnpkajkkpaa.crcMath

theorem row_new (n m : Nat) (h : m = n) : (⟨List.replicate m 0, 0⟩ : Row) = rowF n [] := by rw [h]; exact rowF_nil n

set_option maxRecDepth 100000 in
theorem seal_any (P : Option Addr) (n c : Nat) (bs : List UInt8) (w : World) (hv : Vals w [] P (bs.map B)) (hl : bs.length = n) (hn : n ≤ 1000) :
    Calls Try.prog 21 #[.slice P n c] w fun e w' => ∃ A c', e = .returned (.slice A (n + 4) c') ∧ NewBytes w w' A c' (bs ++ sumOf bs) ∧ Kept [] w w' := by
  have HV := hide hv
  have HL := hide hl
  clear hv hl
  have g1 : IntKind.i64.wrap ((n : Int) + 4) = (n : Int) + 4 := IntWalk.i64_in _ (by omega)
  go_enter Try.func21, Try.ntmps21
  go_wp2_with fail
  refine (new_at ((n : Int) + 4) _ (by omega) (by omega)).mono ?_
  rintro e w1 ⟨p, b, cap, A, rfl, hp, hb, hb1, hr, hk⟩
  rw [row_new (n + 4) _ (by omega)] at hr
  have HR := hide hr
  have hp1 := hr.lt
  have HK := hide hk
  clear hr hk
  go_wp2_with fail
  refine (lay_len p b cap A _ P bs n c _ HL.out HR.out (HV.out.far HK.out (by simp; omega))).mono ?_
  rintro e w2 ⟨rfl, hr2, hk2⟩
  rw [rowF_lay (n + 4) [] bs (by have := HL.out; simp; omega)] at *
  have HR2 := hide hr2
  have HK2 := hide (HK.out.trans hk2 (by simp; omega))
  have hs2 := hk2.size
  clear hr2 hk2
  go_wp2_with fail
  refine (sum_any (some ⟨w2.heap.size, 0, none⟩) 1 1 [bs] _ (parts_one _ _ 26 P n c bs (Blk.new w2 _ _) HL.out (by omega) (HV.out.kept (HK2.out.alloc _) (by simp))) rfl (by omega)).mono ?_
  rintro e w3 ⟨rfl, rfl⟩
  have HK3 := hide (HK2.out.alloc (.cells #[.slice P n c] 26))
  have HR3 := hide (HR2.out.kept (S := []) ((Kept.refl _ w2).alloc (.cells #[.slice P n c] 26)) (by simp) (by simp))
  have hs3 : w2.heap.size < (w2.alloc (.cells #[.slice P n c] 26)).heap.size := by simp
  generalize w2.alloc (.cells #[.slice P n c] 26) = w3 at *
  rw [show [bs].flatten = bs by simp]
  go_wp2_with fail
  refine (put_len p b cap A _ 4 (some ⟨w3.heap.size, 0, none⟩) [(more 0 bs : Int)] 1 1 _ rfl (HR3.out.kept (S := []) ((Kept.refl _ w3).alloc _) (by simp) (by simp)) (base.vals_one w3 [p, b] _ _ (by simp; omega)) (by omega)).mono ?_
  rintro e w4 ⟨rfl, hr4, hk4⟩
  rw [show ((4 : Int)) = ((4 : Nat) : Int) by rfl, rowF_put (n + 4) ([] ++ bs) 4 _ rfl (by simpa using sum_fits bs) (by have := HL.out; simp; omega)] at *
  have HR4 := hide hr4
  have HK4 := hide (HK3.out.trans (((Kept.refl _ w3).alloc (.cells #[.int .i64 (more 0 bs : Int)] 3)).trans hk4 (fun i hi => .inl hi)) (by simp; omega))
  clear hr4 hk4
  have hf : (rowF (n + 4) ([] ++ bs ++ bytesOf 4 [(more 0 bs : Int)])).bs = bs ++ sumOf bs := rowF_full _ _ (by have := HL.out; simp [bytesOf_length]; omega)
  go_wp2_with fail
  refine (bytes_at p b cap A _ _ HR4.out).mono ?_
  rintro e w5 ⟨A5, c5, rfl, hn5, hk5⟩
  rw [hf] at *
  rw [show (bs ++ sumOf bs).length = n + 4 by rw [List.length_append, HL.out, sumOf_len]]
  have HK5 := hide (HK4.out.trans hk5 (by simp))
  have HN5 := hide (hn5.mono HK4.out.size)
  clear hn5 hk5 hf
  go_wp2
  go_ret
  exact ⟨A5, c5, rfl, HN5.out, HK5.out⟩

theorem encode_no (S : Su) (w : World) (h : S.may = false) :
    Calls Try.prog 8 #[S.val] w fun e w' => e = .returned (.tuple #[.slice none 0 0, .int .i64 1]) ∧ Kept [] w w' := by
  have HK := hide ((Kept.refl [] w).alloc (.cells #[.int .i64 S.k, .int .i64 S.s, .int .i64 S.l, .int .i64 S.i, .int .i64 S.m] 25))
  unfold Su.val
  go_enter Try.func8, Try.ntmps8
  go_wp2_with fail
  refine (may_any S _).mono ?_
  rintro e w1 ⟨rfl, hk⟩
  rw [h]
  have HK1 := hide (HK.out.trans hk (by simp))
  clear hk
  go_wp2
  go_ret2
  exact ⟨rfl, HK1.out⟩

theorem fits_small (S : Su) (h : S.may = true) : (∀ m ∈ [S.k, S.s, S.l], fitsW (1 : Nat) m = true) ∧ (∀ m ∈ [S.i, S.m], fitsW (4 : Nat) m = true) := by
  obtain ⟨hk, hs, hl, hi, hm⟩ := (S.may_iff).1 h
  refine ⟨fun m hx => ?_, fun m hx => ?_⟩
  · simp only [List.mem_cons, List.not_mem_nil, or_false] at hx
    rcases hx with rfl | rfl | rfl <;> exact fits1 _ (by omega) (by omega)
  · simp only [List.mem_cons, List.not_mem_nil, or_false] at hx
    rcases hx with rfl | rfl <;> exact fits4 _ (by omega) (by omega)

set_option maxRecDepth 100000 in
theorem encode_yes (S : Su) (w : World) (h : S.may = true) :
    Calls Try.prog 8 #[S.val] w fun e w' => ∃ A c', e = .returned (.tuple #[.slice A 64 c', .int .i64 0]) ∧ NewBytes w w' A c' S.bytes ∧ Kept [] w w' := by
  have HB := hide (Blk.new w 25 #[.int .i64 S.k, .int .i64 S.s, .int .i64 S.l, .int .i64 S.i, .int .i64 S.m])
  have HK := hide ((Kept.refl [] w).alloc (.cells #[.int .i64 S.k, .int .i64 S.s, .int .i64 S.l, .int .i64 S.i, .int .i64 S.m] 25))
  have HF := hide (fits_small S h)
  unfold Su.val
  go_enter Try.func8, Try.ntmps8
  go_wp2_with fail
  refine (may_any S _).mono ?_
  rintro e w1 ⟨rfl, hk⟩
  rw [h]
  have hs1 := hk.size
  have HB1 := hide (hk.blk HB.out (by simp))
  have HK1 := hide (HK.out.trans hk (by simp))
  clear hk
  have hb1 := HB1.out.lt
  obtain ⟨g, hg⟩ : ∃ g, w.heap.size = g := ⟨_, rfl⟩
  have hg2 := HK1.out.size
  rw [hg] at HB HB1 hb1 hg2 ⊢
  clear HB HK hs1
  go_wp2_with fail
  refine (new_at 60 _ (by omega) (by omega)).mono ?_
  rintro e w2 ⟨p, b, cap, A, rfl, hp, hb, hb2, hr, hk⟩
  rw [row_new 60 _ (by rfl)] at hr
  have hp2 := hr.lt
  have HR2 := hide hr
  have HB2 := hide (hk.blk HB1.out (by simp))
  have HK2 := hide (HK1.out.trans hk (by simp))
  clear hr hk
  have hcv := Go.Joins.run_convert_bytes_const_at (P := Try.prog) w2 26 5 #[.int .u8 75, .int .u8 83] 2 2 w2.heap.size rfl Try.underlying26 Try.underlying5
  go_wp2_with fail
  refine (lay_len p b cap A _ (some ⟨w2.heap.size, 0, none⟩) [75, 83] 2 2 _ rfl (HR2.out.kept (S := []) ((Kept.refl _ w2).alloc _) (by simp) (by simp)) (Vals.lit w2 [p, b] _ _ _ ([75, 83].map B) rfl (by simp; omega))).mono ?_
  rintro e w3 ⟨rfl, hr, hk⟩
  rw [rowF_lay 60 [] [75, 83] (by simp)] at *
  have hs3 := hk.size
  have HR3 := hide hr
  have HB3 := hide (Kept.lit_blk _ hk HB2.out (by simp; omega))
  have HK3 := hide (HK2.out.lit _ hk (by simp; omega))
  have hs3 : w2.heap.size < w3.heap.size := by simp at hs3; omega
  clear hr hk hcv HR2 HB2 HK2
  have f0 := HB3.out.cell 0
  have f1 := HB3.out.cell 1
  have f2 := HB3.out.cell 2
  go_wp2_with fail
  refine (put_len p b cap A _ 1 (some ⟨w3.heap.size, 0, none⟩) [S.k, S.s, S.l] 3 3 _ rfl (HR3.out.kept (S := []) ((Kept.refl _ w3).alloc _) (by simp) (by simp)) (Vals.lit w3 [p, b] _ _ _ ([S.k, S.s, S.l].map I) rfl (by simp; omega)) (by omega)).mono ?_
  rintro e w4 ⟨rfl, hr, hk⟩
  rw [show ((1 : Int)) = ((1 : Nat) : Int) by rfl, rowF_put 60 _ 1 _ rfl HF.out.1 (by simp)] at *
  have hs4 := hk.size
  have HR4 := hide hr
  have HB4 := hide (Kept.lit_blk _ hk HB3.out (by simp; omega))
  have HK4 := hide (HK3.out.lit _ hk (by simp; omega))
  have hs4 : w3.heap.size < w4.heap.size := by simp at hs4; omega
  clear hr hk f0 f1 f2 HR3 HB3 HK3
  have f3 := HB4.out.cell 3
  have f4 := HB4.out.cell 4
  go_wp2_with fail
  refine (put_len p b cap A _ 4 (some ⟨w4.heap.size, 0, none⟩) [S.i, S.m] 2 2 _ rfl (HR4.out.kept (S := []) ((Kept.refl _ w4).alloc _) (by simp) (by simp)) (Vals.lit w4 [p, b] _ _ _ ([S.i, S.m].map I) rfl (by simp; omega)) (by omega)).mono ?_
  rintro e w5 ⟨rfl, hr, hk⟩
  rw [show ((4 : Int)) = ((4 : Nat) : Int) by rfl, rowF_put 60 _ 4 _ rfl HF.out.2 (by simp [bytesOf_length])] at *
  have hs5 := hk.size
  have HR5 := hide hr
  have HK5 := hide (HK4.out.lit _ hk (by simp; omega))
  clear hr hk f3 f4 HR4 HB4 HK4
  go_wp2_with fail
  refine (bytes_at p b cap A _ _ HR5.out).mono ?_
  rintro e w6 ⟨A6, c6, rfl, hn6, hk6⟩
  have hb : (rowF 60 (([] ++ [75, 83]) ++ bytesOf 1 [S.k, S.s, S.l] ++ bytesOf 4 [S.i, S.m])).bs = S.body := by
    show S.head ++ List.replicate (60 - S.head.length) 0 = S.body
    rw [S.head_len]
    rfl
  rw [hb] at *
  rw [S.body_len]
  have HN6 := hide (hn6.vals (S := []) (by simp))
  have HK6 := hide (HK5.out.trans hk6 (by simp))
  clear hn6 hk6 hb HK5 HR5
  go_wp2_with fail
  refine (seal_any A6 60 c6 S.body _ HN6.out S.body_len (by omega)).mono ?_
  rintro e w7 ⟨A7, c7, rfl, hn7, hk7⟩
  have HN7 := hide (hn7.mono HK6.out.size)
  have HK7 := hide (HK6.out.trans hk7 (by simp))
  clear hn7 hk7
  go_wp2
  go_ret2
  exact ⟨A7, c7, rfl, HN7.out, HK7.out⟩

theorem encode_any (S : Su) (w : World) :
    Calls Try.prog 8 #[S.val] w fun e w' => ∃ A n c', e = .returned (.tuple #[.slice A n c', .int .i64 (encode S).2]) ∧ n = (encode S).1.length ∧ NewBytes w w' A c' (encode S).1 ∧ Kept [] w w' := by
  by_cases h : S.may = true
  · have e : encode S = (S.bytes, 0) := if_pos h
    rw [e]
    exact (encode_yes S w h).mono fun _ _ ⟨A, c, h1, h2, h3⟩ => ⟨A, 64, c, h1, S.bytes_len.symm, h2, h3⟩
  · have e : encode S = ([], 1) := if_neg h
    rw [e]
    exact (encode_no S w ((Bool.not_eq_true _).mp h)).mono fun _ _ ⟨h1, h3⟩ => ⟨none, 0, 0, h1, rfl, .inl ⟨rfl, rfl, rfl⟩, h3⟩
end Go.Proofs.Ytbglcnpkajkkpaa.super
