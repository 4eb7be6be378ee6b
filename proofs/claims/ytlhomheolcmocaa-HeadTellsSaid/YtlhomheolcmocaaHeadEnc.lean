/- Package head: seal, numbers, Encode. -/
import Derived.Test.YtlhomheolcmocaaHeadSmall
import Derived.Test.YtlhomheolcmocaaCrcCore
import Derived.Test.YtlhomheolcmocaaFar
namespace Go.Proofs.Ytlhomheolcmocaa.hd
open Go.RowKit Go.Proofs.Ytlhomheolcmocaa.mem Go.Proofs.Ytlhomheolcmocaa.base Go.Proofs.Ytlhomheolcmocaa.row Go.Proofs.Ytlhomheolcmocaa.rowBack Go.Proofs.Ytlhomheolcmocaa.fill Go.Proofs.Ytlhomheolcmocaa.crc Go.Proofs.Ytlhomheolcmocaa.crcMath
open Go.Proofs.Ytlhomheolcmocaa.super (sumOf sumOf_len fits1 fits4 sum_fits)

theorem row_new (n m : Nat) (h : m = n) : (⟨List.replicate m 0, 0⟩ : Row) = rowF n [] := by rw [h]; exact rowF_nil n

set_option maxRecDepth 100000 in
theorem seal_any (P : Option Addr) (n c : Nat) (bs : List UInt8) (w : World) (hv : Vals w [] P (bs.map B)) (hl : bs.length = n) (hn : n ≤ 1000) :
    Calls Try.prog 23 #[.slice P n c] w fun e w' => ∃ A c', e = .returned (.slice A (n + 4) c') ∧ NewBytes w w' A c' (bs ++ sumOf bs) ∧ Kept [] w w' := by
  have HV := hide hv
  have HL := hide hl
  clear hv hl
  have g1 : IntKind.i64.wrap ((n : Int) + 4) = (n : Int) + 4 := IntWalk.i64_in _ (by omega)
  go_enter Try.func23, Try.ntmps23
  go_wp2_with fail
  refine (new_at ((n : Int) + 4) _ (by omega) (by omega)).mono ?_
  rintro e w1 ⟨p, b, cap, A, rfl, hp, hb, hb1, hr, hk⟩
  rw [row_new (n + 4) _ (by omega)] at hr
  have HR := hide hr
  have hp1 := hr.lt
  have HK := hide hk
  clear hr hk
  go_wp2_with fail
  refine (lay_len p b cap A _ P bs n c _ HL.out HR.out (HV.out.far HK.out (by simp; omega))).mono ?_
  rintro e w2 ⟨rfl, hr2, hk2⟩
  rw [rowF_lay (n + 4) [] bs (by have := HL.out; simp; omega)] at *
  have HR2 := hide hr2
  have HK2 := hide (HK.out.trans hk2 (by simp; omega))
  have hs2 := hk2.size
  clear hr2 hk2
  go_wp2_with fail
  refine (sum_any (some ⟨w2.heap.size, 0, none⟩) 1 1 [bs] _ (parts_one _ _ 24 P n c bs (Blk.new w2 _ _) HL.out (by omega) (HV.out.kept (HK2.out.alloc _) (by simp))) rfl (by omega)).mono ?_
  rintro e w3 ⟨rfl, rfl⟩
  have HK3 := hide (HK2.out.alloc (.cells #[.slice P n c] 24))
  have HR3 := hide (HR2.out.kept (S := []) ((Kept.refl _ w2).alloc (.cells #[.slice P n c] 24)) (by simp) (by simp))
  have hs3 : w2.heap.size < (w2.alloc (.cells #[.slice P n c] 24)).heap.size := by simp
  generalize w2.alloc (.cells #[.slice P n c] 24) = w3 at *
  rw [show [bs].flatten = bs by simp]
  go_wp2_with fail
  refine (put_len p b cap A _ 4 (some ⟨w3.heap.size, 0, none⟩) [(more 0 bs : Int)] 1 1 _ rfl (HR3.out.kept (S := []) ((Kept.refl _ w3).alloc _) (by simp) (by simp)) (base.vals_one w3 [p, b] _ _ (by simp; omega)) (by omega)).mono ?_
  rintro e w4 ⟨rfl, hr4, hk4⟩
  rw [show ((4 : Int)) = ((4 : Nat) : Int) by rfl, rowF_put (n + 4) ([] ++ bs) 4 _ rfl (by simpa using sum_fits bs) (by have := HL.out; simp; omega)] at *
  have HR4 := hide hr4
  have HK4 := hide (HK3.out.trans (((Kept.refl _ w3).alloc (.cells #[.int .i64 (more 0 bs : Int)] 3)).trans hk4 (fun i hi => .inl hi)) (by simp; omega))
  clear hr4 hk4
  have hf : (rowF (n + 4) ([] ++ bs ++ bytesOf 4 [(more 0 bs : Int)])).bs = bs ++ sumOf bs := rowF_full _ _ (by have := HL.out; simp [bytesOf_length]; omega)
  go_wp2_with fail
  refine (bytes_at p b cap A _ _ HR4.out).mono ?_
  rintro e w5 ⟨A5, c5, rfl, hn5, hk5⟩
  rw [hf] at *
  rw [show (bs ++ sumOf bs).length = n + 4 by rw [List.length_append, HL.out, sumOf_len]]
  have HK5 := hide (HK4.out.trans hk5 (by simp))
  have HN5 := hide (hn5.mono HK4.out.size)
  clear hn5 hk5 hf
  go_wp2
  go_ret
  exact ⟨A5, c5, rfl, HN5.out, HK5.out⟩

theorem numbers_one (H : Hd) (w : World) :
    Calls Try.prog 22 #[H.val, .int .i64 1] w fun e w' => ∃ A c, e = .returned (.slice A 1 c) ∧ (∀ S : List Nat, (∀ i ∈ S, i < w.heap.size) → Vals w' S A ([H.g].map I)) ∧ Kept [] w w' := by
  have HK := hide ((Kept.refl [] w).alloc (.cells H.cells 23))
  have hs : w.heap.size < (w.alloc (.cells H.cells 23)).heap.size := by simp
  have hv := fun (S : List Nat) (hS : ∀ i ∈ S, i < w.heap.size) => Vals.lit (w.alloc (.cells H.cells 23)) S 3 #[.int .i64 H.g] (0, 0) ([H.g].map I) rfl (fun i hi => Nat.lt_trans (hS i hi) hs)
  rw [show (w.alloc (.cells H.cells 23)).heap.size = w.heap.size + 1 by simp] at hv
  have HV := hide hv
  clear hs hv
  unfold Hd.val
  go_enter Try.func22, Try.ntmps22
  go_wp2
  go_ret
  exact ⟨_, _, rfl, HV.out, HK.out.alloc _⟩

theorem numbers_four (H : Hd) (w : World) :
    Calls Try.prog 22 #[H.val, .int .i64 4] w fun e w' => ∃ A c, e = .returned (.slice A 3 c) ∧ (∀ S : List Nat, (∀ i ∈ S, i < w.heap.size) → Vals w' S A ([H.m, H.l, H.v].map I)) ∧ Kept [] w w' := by
  have HK := hide ((Kept.refl [] w).alloc (.cells H.cells 23))
  have hs : w.heap.size < (w.alloc (.cells H.cells 23)).heap.size := by simp
  have hv := fun (S : List Nat) (hS : ∀ i ∈ S, i < w.heap.size) => Vals.lit (w.alloc (.cells H.cells 23)) S 3 #[.int .i64 H.m, .int .i64 H.l, .int .i64 H.v] (0, 0) ([H.m, H.l, H.v].map I) rfl (fun i hi => Nat.lt_trans (hS i hi) hs)
  rw [show (w.alloc (.cells H.cells 23)).heap.size = w.heap.size + 1 by simp] at hv
  have HV := hide hv
  clear hs hv
  unfold Hd.val
  go_enter Try.func22, Try.ntmps22
  go_wp2
  go_ret
  exact ⟨_, _, rfl, HV.out, HK.out.alloc _⟩

theorem encode_no (H : Hd) (w : World) (h : H.may = false) :
    Calls Try.prog 7 #[H.val] w fun e w' => e = .returned (.tuple #[.slice none 0 0, .int .i64 1]) ∧ Kept [] w w' := by
  have HK := hide ((Kept.refl [] w).alloc (.cells H.cells 23))
  unfold Hd.val
  go_enter Try.func7, Try.ntmps7
  go_wp2_with fail
  refine (may_any H _).mono ?_
  rintro e w1 ⟨rfl, hk⟩
  rw [h]
  have HK1 := hide (HK.out.trans hk (by simp))
  clear hk
  go_wp2
  go_ret2
  exact ⟨rfl, HK1.out⟩

theorem fits_small (H : Hd) (h : H.may = true) : (∀ m ∈ [H.g], fitsW (1 : Nat) m = true) ∧ (∀ m ∈ [H.m, H.l, H.v], fitsW (4 : Nat) m = true) := by
  obtain ⟨hg, hm, hl, hv⟩ := (H.may_iff).1 h
  refine ⟨fun m hx => ?_, fun m hx => ?_⟩
  · simp only [List.mem_cons, List.not_mem_nil, or_false] at hx
    subst hx
    exact fits1 _ (by omega) (by omega)
  · simp only [List.mem_cons, List.not_mem_nil, or_false] at hx
    rcases hx with rfl | rfl | rfl <;> exact fits4 _ (by omega) (by omega)

theorem pick0 (w : World) : (Instr.index 52 (.agg #[.int .i64 1, .int .i64 4]) (.int .i64 0)).run Try.prog w = .ok (.int .i64 1) w := by kernel_rfl
theorem pick1 (w : World) : (Instr.index 52 (.agg #[.int .i64 1, .int .i64 4]) (.int .i64 1)).run Try.prog w = .ok (.int .i64 4) w := by kernel_rfl

set_option maxRecDepth 100000 in
set_option maxHeartbeats 1000000 in
theorem encode_yes (H : Hd) (w : World) (h : H.may = true) :
    Calls Try.prog 7 #[H.val] w fun e w' => ∃ A c', e = .returned (.tuple #[.slice A 64 c', .int .i64 0]) ∧ NewBytes w w' A c' H.bytes ∧ Kept [] w w' := by
  have HB := hide (Blk.new w 23 H.cells)
  have HK := hide ((Kept.refl [] w).alloc (.cells H.cells 23))
  have HF := hide (fits_small H h)
  have i0 := pick0
  have i1 := pick1
  unfold Hd.val
  go_enter Try.func7, Try.ntmps7
  go_wp2_with fail
  refine (may_any H _).mono ?_
  rintro e w1 ⟨rfl, hk⟩
  rw [h]
  have HB1 := hide (hk.blk HB.out (by simp))
  have HK1 := hide (HK.out.trans hk (by simp))
  clear hk
  have hb1 := HB1.out.lt
  obtain ⟨g, hg⟩ : ∃ g, w.heap.size = g := ⟨_, rfl⟩
  have hg2 := HK1.out.size
  rw [hg] at HB HB1 hb1 hg2 ⊢
  clear HB HK
  go_wp2_with fail
  refine (new_at 60 _ (by omega) (by omega)).mono ?_
  rintro e w2 ⟨p, b, cap, A, rfl, hp, hb, hb2, hr, hk⟩
  rw [row_new 60 _ (by rfl)] at hr
  have hp2 := hr.lt
  have HR2 := hide hr
  have HB2 := hide (hk.blk HB1.out (by simp))
  have HK2 := hide (HK1.out.trans hk (by simp))
  clear hr hk
  have hcv := Go.Joins.run_convert_bytes_const_at (P := Try.prog) w2 24 5 #[.int .u8 75, .int .u8 72] 2 2 w2.heap.size rfl Try.underlying24 Try.underlying5
  go_wp2_with fail
  refine (lay_len p b cap A _ (some ⟨w2.heap.size, 0, none⟩) [75, 72] 2 2 _ rfl (HR2.out.kept (S := []) ((Kept.refl _ w2).alloc _) (by simp) (by simp)) (Vals.lit w2 [p, b] _ _ _ ([75, 72].map B) rfl (by simp; omega))).mono ?_
  rintro e w3 ⟨rfl, hr, hk⟩
  rw [rowF_lay 60 [] [75, 72] (by simp)] at *
  have HR3 := hide hr
  have HB3 := hide (Kept.lit_blk _ hk HB2.out (by simp; omega))
  have HK3 := hide (HK2.out.lit _ hk (by simp; omega))
  have HBL3 : Hid (b < w3.heap.size) := hide (by have := hk.size; simp at this; omega)
  have hgp : g < p := by omega
  have hgb : g < b := by omega
  have hpw : w.heap.size ≤ p := by omega
  have hbw : w.heap.size ≤ b := by omega
  clear hr hk hcv HR2 HB2 HK2 hg hp hb hb2 hp2 hb1 hg2 HB1 HK1
  go_wp2_with fail
  go_loopw [16] (fun i wr => Hid (Kept [] w wr) ∧ Hid (b < wr.heap.size) ∧
      ((i = .int .i64 0 ∧ Hid (Blk wr g 23 H.cells) ∧ Hid (RowAt wr p b cap A (rowF 60 ([] ++ [75, 72])))) ∨
       (i = .int .i64 1 ∧ Hid (Blk wr g 23 H.cells) ∧ Hid (RowAt wr p b cap A (rowF 60 (([] ++ [75, 72]) ++ bytesOf 1 [H.g])))) ∨
       (i = .int .i64 2 ∧ Hid (RowAt wr p b cap A (rowF 60 H.head))))) (fun i wr => 2 - (intOf i).toNat)
  case atStart => exact ⟨HK3, HBL3, .inl ⟨rfl, HB3, HR3⟩⟩
  case round =>
    clear HK3 HB3 HR3 HBL3
    obtain ⟨HK, HBL, ⟨rfl, HB, HR⟩ | ⟨rfl, HB, HR⟩ | ⟨rfl, HR⟩⟩ := hrel
    · obtain ⟨c0, c1, c2, c3⟩ := Hd.cell_at HB.out
      have hpl := HR.out.lt
      have hbl := HBL.out
      go_wp2_with fail
      refine (numbers_one H _).mono ?_
      rintro e w4 ⟨A4, c4, rfl, hv, hk⟩
      have hv4 := hv [p, b] (by simp; omega)
      have HB4 := hide (hk.blk HB.out (by simp))
      have HR4 := hide (HR.out.kept hk (by simp) (by simp))
      have HK4 := hide (HK.out.trans hk (by simp))
      have HV4 := hide hv4
      have HBL4 : b < w4.heap.size := by have := hk.size; omega
      clear hv hk hv4 HB HR HK c0 c1 c2 c3
      go_wp2_with fail
      refine (put_len p b cap A _ 1 A4 [H.g] 1 c4 _ rfl HR4.out HV4.out (by omega)).mono ?_
      rintro e w5 ⟨rfl, hr, hk⟩
      rw [show ((1 : Int)) = ((1 : Nat) : Int) by rfl, rowF_put 60 _ 1 _ rfl HF.out.1 (by simp)] at *
      have HR5 := hide hr
      have HB5 := hide (hk.blk HB4.out (by simp; omega))
      have HK5 := hide (HK4.out.trans hk (by simp; omega))
      have HBL5 : Hid (b < w5.heap.size) := hide (by have := hk.size; omega)
      clear hr hk HR4 HB4 HK4 HV4 HBL4
      go_wp2
      exact ⟨⟨HK5, HBL5, .inr <| .inl ⟨rfl, HB5, HR5⟩⟩, by simp [intOf]⟩
    · obtain ⟨c0, c1, c2, c3⟩ := Hd.cell_at HB.out
      have hpl := HR.out.lt
      have hbl := HBL.out
      go_wp2_with fail
      refine (numbers_four H _).mono ?_
      rintro e w4 ⟨A4, c4, rfl, hv, hk⟩
      have hv4 := hv [p, b] (by simp; omega)
      have HR4 := hide (HR.out.kept hk (by simp) (by simp))
      have HK4 := hide (HK.out.trans hk (by simp))
      have HV4 := hide hv4
      have HBL4 : b < w4.heap.size := by have := hk.size; omega
      clear hv hk hv4 HB HR HK c0 c1 c2 c3
      go_wp2_with fail
      refine (put_len p b cap A _ 4 A4 [H.m, H.l, H.v] 3 c4 _ rfl HR4.out HV4.out (by omega)).mono ?_
      rintro e w5 ⟨rfl, hr, hk⟩
      rw [show ((4 : Int)) = ((4 : Nat) : Int) by rfl, rowF_put 60 _ 4 _ rfl HF.out.2 (by simp [bytesOf_length])] at *
      have HR5 : Hid (RowAt w5 p b cap A (rowF 60 H.head)) := hide hr
      have HK5 := hide (HK4.out.trans hk (by simp; omega))
      have HBL5 : Hid (b < w5.heap.size) := hide (by have := hk.size; omega)
      clear hr hk HR4 HK4 HV4 HBL4
      go_wp2
      exact ⟨⟨HK5, HBL5, .inr <| .inr ⟨rfl, HR5⟩⟩, by simp [intOf]⟩
    · go_wp2_with fail
      refine (bytes_at p b cap A _ _ HR.out).mono ?_
      rintro e w6 ⟨A6, c6, rfl, hn6, hk6⟩
      have hb : (rowF 60 H.head).bs = H.body := by
        show H.head ++ List.replicate (60 - H.head.length) 0 = H.body
        rw [H.head_len]
        rfl
      rw [hb] at *
      rw [H.body_len]
      have HN6 := hide (hn6.vals (S := []) (by simp))
      have HK6 := hide (HK.out.trans hk6 (by simp))
      clear hn6 hk6 hb HK HR
      go_wp2_with fail
      refine (seal_any A6 60 c6 H.body _ HN6.out H.body_len (by omega)).mono ?_
      rintro e w7 ⟨A7, c7, rfl, hn7, hk7⟩
      have HN7 := hide (hn7.mono HK6.out.size)
      have HK7 := hide (HK6.out.trans hk7 (by simp))
      clear hn7 hk7
      go_wp2
      go_ret2
      exact ⟨A7, c7, rfl, HN7.out, HK7.out⟩

theorem encode_any (H : Hd) (w : World) :
    Calls Try.prog 7 #[H.val] w fun e w' => ∃ A n c', e = .returned (.tuple #[.slice A n c', .int .i64 (encode H).2]) ∧ n = (encode H).1.length ∧ NewBytes w w' A c' (encode H).1 ∧ Kept [] w w' := by
  by_cases h : H.may = true
  · have e : encode H = (H.bytes, 0) := if_pos h
    rw [e]
    exact (encode_yes H w h).mono fun _ _ ⟨A, c, h1, h2, h3⟩ => ⟨A, 64, c, h1, H.bytes_len.symm, h2, h3⟩
  · have e : encode H = ([], 1) := if_neg h
    rw [e]
    exact (encode_no H w ((Bool.not_eq_true _).mp h)).mono fun _ _ ⟨h1, h3⟩ => ⟨none, 0, 0, h1, rfl, .inl ⟨rfl, rfl, rfl⟩, h3⟩
end Go.Proofs.Ytlhomheolcmocaa.hd
