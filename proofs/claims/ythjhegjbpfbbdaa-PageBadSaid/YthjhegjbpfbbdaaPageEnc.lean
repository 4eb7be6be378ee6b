/- Package page: Encode. -/
import Derived.Test.YthjhegjbpfbbdaaPageMath
import Derived.Test.YthjhegjbpfbbdaaCrcCore
import Derived.Test.YthjhegjbpfbbdaaFar
namespace Go.Proofs.Ythjhegjbpfbbdaa.pg
open Go.RowKit Go.Proofs.Ythjhegjbpfbbdaa.mem Go.Proofs.Ythjhegjbpfbbdaa.base Go.Proofs.Ythjhegjbpfbbdaa.row Go.Proofs.Ythjhegjbpfbbdaa.rowBack Go.Proofs.Ythjhegjbpfbbdaa.fill Go.Proofs.Ythjhegjbpfbbdaa.crc Go.Proofs.Ythjhegjbpfbbdaa.crcMath
open Go.Proofs.Ythjhegjbpfbbdaa.super (sumOf sumOf_len fits4 sum_fits)

theorem row_new (n m : Nat) (h : m = n) : (⟨List.replicate m 0, 0⟩ : Row) = rowF n [] := by rw [h]; exact rowF_nil n

theorem encode_long (A : Option Addr) (n c : Nat) (w : World) (h : 15 < n) :
    Calls Try.prog 7 #[.slice A n c] w fun e w' => e = .returned (.tuple #[.slice none 0 0, .int .i64 1]) ∧ Kept [] w w' := by
  have g1 : (15 : Int) < n := by omega
  go_enter Try.func7, Try.ntmps7
  go_wp2
  go_ret2
  exact ⟨rfl, Kept.refl _ _⟩

/-- The array's cells. -/
def cellsOf (l : List Int) : Array Value := (l.map I).toArray
theorem cellsOf_set (l : List Int) (i : Nat) (x : Int) : (cellsOf l).setIfInBounds i (.int .i64 x) = cellsOf (l.set i x) := by
  unfold cellsOf
  rw [List.setIfInBounds_toArray, List.map_set]
  rfl
theorem cellsOf_zero (l : List Int) : cellsOf (nums l 0) = #[.int .i64 0, .int .i64 0, .int .i64 0, .int .i64 0, .int .i64 0, .int .i64 0, .int .i64 0, .int .i64 0, .int .i64 0, .int .i64 0, .int .i64 0, .int .i64 0, .int .i64 0, .int .i64 0, .int .i64 0] := by
  rw [nums_zero]
  rfl
theorem cells_vals {w : World} {S : List Nat} {g : Nat} {t : TypeId} {l : List Int} (h : Blk w g t (cellsOf l)) (hg : g ∉ S) : Vals w S (some ⟨g, 0, none⟩) (l.map I) :=
  Vals.blk 0 h hg fun i v hv => by
    unfold cellsOf
    simpa using hv
theorem may_no (l : List Int) (x : Int) (hx : x ∈ l) (h : ¬ (-1 ≤ x ∧ x ≤ 4095)) : encode l = ([], 1) :=
  if_neg fun hm => h (((may_iff l).1 hm).2 x hx)
theorem take_more (l : List Int) (j : Nat) (x : Int) (h : l[j]? = some x) (hx : -1 ≤ x ∧ x ≤ 4095) (ht : ∀ y ∈ l.take j, -1 ≤ y ∧ y ≤ 4095) : ∀ y ∈ l.take (j + 1), -1 ≤ y ∧ y ≤ 4095 := fun y hy => by
  rw [List.take_add_one, h] at hy
  rcases List.mem_append.1 hy with hy | hy
  · exact ht y hy
  · simp only [Option.toList, List.mem_cons, List.not_mem_nil, or_false] at hy
    rw [hy]
    exact hx

set_option maxRecDepth 100000 in
set_option maxHeartbeats 1000000 in
theorem encode_in (A : Option Addr) (n c : Nat) (l : List Int) (w : World) (hv : Vals w [] A (l.map I)) (hl : l.length = n) (h : n ≤ 15) :
    Calls Try.prog 7 #[.slice A n c] w fun e w' => ∃ A n c', e = .returned (.tuple #[.slice A n c', .int .i64 (encode l).2]) ∧ n = (encode l).1.length ∧ NewBytes w w' A c' (encode l).1 ∧ Kept [] w w' := by
  have HV := hide hv
  have HL := hide hl
  clear hv hl
  have g1 : ¬ (15 : Int) < n := by omega
  have HB0 : Hid (Blk (w.alloc (.cells #[.int .i64 0, .int .i64 0, .int .i64 0, .int .i64 0, .int .i64 0, .int .i64 0, .int .i64 0, .int .i64 0, .int .i64 0, .int .i64 0, .int .i64 0, .int .i64 0, .int .i64 0, .int .i64 0, .int .i64 0] 43)) w.heap.size 43 (cellsOf (nums l 0))) := hide (by rw [cellsOf_zero]; exact Blk.new w _ _)
  have HK0 := hide ((Kept.refl [] w).alloc (.cells #[.int .i64 0, .int .i64 0, .int .i64 0, .int .i64 0, .int .i64 0, .int .i64 0, .int .i64 0, .int .i64 0, .int .i64 0, .int .i64 0, .int .i64 0, .int .i64 0, .int .i64 0, .int .i64 0, .int .i64 0] 43))
  go_enter Try.func7, Try.ntmps7
  go_wp2
  go_loopw [13] (fun i wr => ∃ j : Nat, j ≤ n ∧ i = .int .i64 j ∧ Hid (∀ x ∈ l.take j, -1 ≤ x ∧ x ≤ 4095) ∧ Hid (Blk wr w.heap.size 43 (cellsOf (nums l j))) ∧ Hid (Kept [] w wr)) (fun i wr => n - (intOf i).toNat)
  case atStart => exact ⟨0, by omega, rfl, hide (by simp), HB0, HK0⟩
  case round =>
    clear HB0 HK0
    obtain ⟨j, hj, rfl, HT, HB, HK⟩ := hrel
    by_cases hlt : j < n
    · obtain ⟨x, hx⟩ : ∃ x, l[j]? = some x := ⟨_, List.getElem?_eq_getElem (by rw [HL.out]; exact hlt)⟩
      obtain ⟨ad, rfl, _, a0⟩ := (HV.out.kept HK.out (by simp)) j (I x) (by rw [List.getElem?_map, hx]; rfl)
      unfold I at a0
      have HX := hide hx
      clear hx
      by_cases hgood : -1 ≤ x ∧ x ≤ 4095
      · obtain ⟨h1, h2⟩ := hgood
        have HG : Hid (-1 ≤ x ∧ x ≤ 4095) := hide ⟨h1, h2⟩
        have q1 : ¬ x < -1 := by omega
        have q2 : ¬ (4096 : Int) ≤ x := by omega
        have b0 : wr.cell? ⟨w.heap.size, j, none⟩ = (cellsOf (nums l j))[j]? := HB.out.cell j
        obtain ⟨v0, hv0⟩ : ∃ v0, (cellsOf (nums l j))[j]? = some v0 := ⟨_, Array.getElem?_eq_getElem (by
          have := nums_len l j (by rw [HL.out]; omega) (by rw [HL.out]; omega)
          simp [cellsOf, this]; omega)⟩
        rw [hv0] at b0
        have bf := HB.out.frozen j
        clear hv0
        have HB2 : Hid (Blk (wr.setCell ⟨w.heap.size, j, none⟩ (.int .i64 (w4 x))) w.heap.size 43 (cellsOf (nums l (j + 1)))) := hide (by
          have := HB.out.set_ j (.int .i64 (w4 x))
          rw [cellsOf_set, nums_set l j x HX.out (by rw [HL.out]; omega)] at this
          exact this)
        have HT2 := hide (take_more l j x HX.out HG.out HT.out)
        have HK2 := hide (HK.out.set_ (b := w.heap.size) (.inr (Nat.le_refl _)) j (.int .i64 (w4 x)))
        go_wp2
        go_roundw
        case rel => exact ⟨j + 1, by omega, by go_num, HT2, HB2, HK2⟩
        case measure => simp [intOf]; omega
      · have HE : Hid (encode l = ([], 1)) := hide (may_no l x (List.mem_of_getElem? HX.out) hgood)
        by_cases hneg : x < -1
        · clear hgood
          go_wp2
          go_ret2
          exact ⟨none, 0, 0, by rw [HE.out]; rfl, by rw [HE.out]; rfl, by rw [HE.out]; exact .inl ⟨rfl, rfl, rfl⟩, HK.out⟩
        · have q2 : (4096 : Int) ≤ x := by omega
          clear hgood
          go_wp2
          go_ret2
          exact ⟨none, 0, 0, by rw [HE.out]; rfl, by rw [HE.out]; rfl, by rw [HE.out]; exact .inl ⟨rfl, rfl, rfl⟩, HK.out⟩
    · obtain rfl : j = n := by omega
      have hm : may l = true := (may_iff l).2 ⟨by rw [HL.out]; exact h, fun x hx => HT.out x (by rw [List.take_of_length_le (by rw [HL.out]; exact Nat.le_refl _)]; exact hx)⟩
      have HE : Hid (encode l = (bytes l, 0)) := hide (if_pos hm)
      have hb := HB.out
      rw [← HL.out, nums_all] at hb
      have HB1 := hide hb
      have hfl : (full l).length = 15 := full_len l (by rw [HL.out]; exact h)
      have hml : ((full l).map w4).length = 15 := by rw [List.length_map]; exact hfl
      have HML := hide hml
      have hbl : (body l).length = 60 := body_len l (by rw [HL.out]; exact h)
      have HBL := hide hbl
      have HFF : Hid (∀ m ∈ (full l).map w4, fitsW (4 : Nat) m = true) := hide (fun m hx => by
        obtain ⟨x, _, rfl⟩ := List.mem_map.1 hx
        exact w4_fits x)
      have hlt1 := hb.lt
      obtain ⟨g, hg⟩ : ∃ g, w.heap.size = g := ⟨_, rfl⟩
      rw [hg] at HB1 hlt1 ⊢
      clear hb hfl hml hbl hm HT HB hlt
      go_wp2_with fail
      refine (new_at 64 _ (by omega) (by omega)).mono ?_
      rintro e w1 ⟨p, b, cap, A1, rfl, hp, hb, hb1, hr, hk⟩
      rw [row_new 64 _ (by rfl)] at hr
      have hp1 := hr.lt
      have HR1 := hide hr
      have HK1 := hide (HK.out.trans hk (by simp))
      have HB1' := hide (hk.blk HB1.out (by simp))
      have hgp : g ≠ p := by omega
      have hgb : g ≠ b := by omega
      have hpw : w.heap.size ≤ p := by omega
      have hbw : w.heap.size ≤ b := by omega
      have HPW := hide hpw
      have HBW := hide hbw
      clear hr hk HB1 HK hg hp hb hpw hbw hlt1
      go_wp2_with fail
      refine (put_len p b cap A1 _ 4 (some ⟨g, 0, none⟩) ((full l).map w4) 15 15 _ HML.out HR1.out (cells_vals HB1'.out (by simp; omega)) (by omega)).mono ?_
      rintro e w2 ⟨rfl, hr, hk⟩
      rw [show ((4 : Int)) = ((4 : Nat) : Int) by rfl, rowF_put 64 [] 4 _ rfl HFF.out (by rw [HML.out]; simp)] at *
      have HR2 : Hid (RowAt w2 p b cap A1 (rowF 64 (body l))) := hide hr
      have HK2 := hide (HK1.out.trans hk (by simp; exact ⟨HPW.out, HBW.out⟩))
      have hs2 := hk.size
      clear hr hk HR1 HB1' HK1
      have hp2 := HR2.out.lt
      have hb2 : b < w2.heap.size := by omega
      clear hs2 hp1 hb1
      have h64 : (rowF 64 (body l)).bs.length = 64 := rowF_len 64 (body l) (by rw [HBL.out]; omega)
      have H64 := hide h64
      have htk : (rowF 64 (body l)).bs.take 60 = body l := by
        show (body l ++ List.replicate (64 - (body l).length) 0).take 60 = body l
        rw [List.take_append_of_le_length (by rw [HBL.out]; omega), List.take_of_length_le (by rw [HBL.out]; omega)]
      have HTK := hide htk
      clear h64 htk
      go_wp2_with fail
      refine (bytes_at p b cap A1 _ _ HR2.out).mono ?_
      rintro e w3 ⟨A3, c3, rfl, hn3, hk3⟩
      rw [H64.out]
      obtain ⟨q, rfl, hq, hq3⟩ := hn3.pos (by rw [H64.out]; omega)
      have hle := hq3.len
      rw [H64.out] at hle
      have hv3 : Vals w3 [] (some ⟨q, 0, none⟩) ((body l).map B) := by
        have := (hq3.vals (S := []) (by simp)).first 60
        rwa [← List.map_take, HTK.out] at this
      have HV3 := hide hv3
      have HK3 := hide (HK2.out.trans hk3 (by simp))
      have HR3 := hide (HR2.out.kept hk3 (by simp) (by simp))
      have hp3 := HR3.out.lt
      have hs3 := hk3.size
      have hb3 : b < w3.heap.size := by omega
      clear hn3 hk3 hq hq3 hv3 hs3 HR2 HK2 hp2 hb2
      go_wp2_with fail
      refine (sum_any (some ⟨w3.heap.size, 0, none⟩) 1 1 [body l] _ (parts_one _ _ 23 (some ⟨q, 0, none⟩) 60 c3 (body l) (Blk.new w3 _ _) HBL.out (by omega) (HV3.out.kept ((Kept.refl [] w3).alloc _) (by simp))) rfl (by omega)).mono ?_
      rintro e w4 ⟨rfl, rfl⟩
      have HK4 := hide (HK3.out.alloc (.cells #[.slice (some ⟨q, 0, none⟩) 60 c3] 23))
      have HR4 := hide (HR3.out.kept (S := []) ((Kept.refl _ w3).alloc (.cells #[.slice (some ⟨q, 0, none⟩) 60 c3] 23)) (by simp) (by simp))
      have hs4 : w3.heap.size < (w3.alloc (.cells #[.slice (some ⟨q, 0, none⟩) 60 c3] 23)).heap.size := by simp
      generalize w3.alloc (.cells #[.slice (some ⟨q, 0, none⟩) 60 c3] 23) = w4 at *
      rw [show [body l].flatten = body l by simp]
      clear HR3 HK3 HV3
      go_wp2_with fail
      refine (put_len p b cap A1 _ 4 (some ⟨w4.heap.size, 0, none⟩) [(more 0 (body l) : Int)] 1 1 _ rfl (HR4.out.kept (S := []) ((Kept.refl _ w4).alloc _) (by simp) (by simp)) (base.vals_one w4 [p, b] _ _ (by simp; omega)) (by omega)).mono ?_
      rintro e w5 ⟨rfl, hr, hk⟩
      rw [show ((4 : Int)) = ((4 : Nat) : Int) by rfl, rowF_put 64 (body l) 4 _ rfl (by simpa using sum_fits (body l)) (by rw [HBL.out]; simp)] at *
      have HR5 : Hid (RowAt w5 p b cap A1 (rowF 64 (bytes l))) := hide hr
      have HK5 := hide (HK4.out.trans (((Kept.refl _ w4).alloc (.cells #[.int .i64 (more 0 (body l) : Int)] 3)).trans hk (fun i hi => .inl hi)) (by simp; exact ⟨HPW.out, HBW.out⟩))
      clear hr hk
      have hf : (rowF 64 (bytes l)).bs = bytes l := rowF_full _ _ (by unfold bytes; rw [List.length_append, HBL.out, sumOf_len])
      go_wp2_with fail
      refine (bytes_at p b cap A1 _ _ HR5.out).mono ?_
      rintro e w6 ⟨A6, c6, rfl, hn6, hk6⟩
      rw [hf] at *
      rw [show (bytes l).length = 64 by unfold bytes; rw [List.length_append, HBL.out, sumOf_len]]
      have HK6 := hide (HK5.out.trans hk6 (by simp))
      have HN6 := hide (hn6.mono HK5.out.size)
      clear hn6 hk6 hf
      go_wp2
      go_ret2
      exact ⟨A6, 64, c6, by rw [HE.out]; rfl, by rw [HE.out]; unfold bytes; rw [List.length_append, HBL.out, sumOf_len], by rw [HE.out]; exact HN6.out, HK6.out⟩

theorem encode_any (A : Option Addr) (n c : Nat) (l : List Int) (w : World) (hv : Vals w [] A (l.map I)) (hl : l.length = n) :
    Calls Try.prog 7 #[.slice A n c] w fun e w' => ∃ A n c', e = .returned (.tuple #[.slice A n c', .int .i64 (encode l).2]) ∧ n = (encode l).1.length ∧ NewBytes w w' A c' (encode l).1 ∧ Kept [] w w' := by
  by_cases h : n ≤ 15
  · exact encode_in A n c l w hv hl h
  · have e : encode l = ([], 1) := if_neg fun hm => h (by rw [← hl]; exact ((may_iff l).1 hm).1)
    rw [e]
    exact (encode_long A n c w (by omega)).mono fun _ _ ⟨h1, h3⟩ => ⟨none, 0, 0, h1, rfl, .inl ⟨rfl, rfl, rfl⟩, h3⟩
end Go.Proofs.Ythjhegjbpfbbdaa.pg
