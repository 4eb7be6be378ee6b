/- Package page: read, Decode. -/
import Derived.Test.YthjhegjbpfbbdaaPageEnc
import Derived.Test.YthjhegjbpfbbdaaBytesEq
namespace Go.Proofs.Ythjhegjbpfbbdaa.pg
open Go.RowKit Go.Proofs.Ythjhegjbpfbbdaa.mem Go.Proofs.Ythjhegjbpfbbdaa.base Go.Proofs.Ythjhegjbpfbbdaa.row Go.Proofs.Ythjhegjbpfbbdaa.rowBack Go.Proofs.Ythjhegjbpfbbdaa.fill Go.Proofs.Ythjhegjbpfbbdaa.crc Go.Proofs.Ythjhegjbpfbbdaa.crcMath
open Go.Proofs.Ythjhegjbpfbbdaa.super (get_bd4)

theorem made_ints (m : Nat) : madeCells #[.int .i64 0] m = cellsOf (List.replicate m 0) := by
  unfold cellsOf
  rw [List.map_replicate]
  apply Array.ext
  · simp [madeCells]
  · intro i h1 h2
    simp [madeCells, Nat.mod_one, I]
theorem run_make_ints (m : Nat) (hm : m ≤ 1000) (w : World) :
    (Instr.makeSlice 22 (.int .i64 (m : Int)) (.int .i64 (m : Int))).run Try.prog w = .ok (.slice (some ⟨w.heap.size, 0, none⟩) m m) (w.alloc (.cells (cellsOf (List.replicate m 0)) 3)) := by
  rw [← made_ints]
  exact run_make_row' (P := Try.prog) 22 3 (.int .i64 0) 8 (by kernel_rfl) (by kernel_rfl) rfl .i64 .i64 m (by omega) (by omega) w

/-- What was read by now, zeros behind it. -/
def upto (bs : List UInt8) (j : Nat) : List Int := readK bs j ++ List.replicate (15 - j) 0
theorem upto_zero (bs : List UInt8) : upto bs 0 = List.replicate 15 0 := by simp [upto, readK]
theorem upto_all (bs : List UInt8) : upto bs 15 = readOf bs := by simp [upto, readOf]
theorem upto_len (bs : List UInt8) (j : Nat) (h : j ≤ 15) : (upto bs j).length = 15 := by simp [upto, readK_len]; omega
theorem upto_set (bs : List UInt8) (j : Nat) (h : j < 15) : (upto bs j).set j (s4 (raw bs j)) = upto bs (j + 1) := by
  unfold upto
  rw [List.set_append, readK_len, if_neg (by omega), Nat.sub_self, show 15 - j = (15 - (j + 1)) + 1 by omega, List.replicate_succ, List.set_cons_zero, readK_succ]
  simp
theorem s4_bd (x : Int) (h : 0 ≤ x ∧ x < 4294967296) : IntKind.i32.wrap x = s4 x ∧ -2147483648 ≤ s4 x ∧ s4 x ≤ 2147483647 := by
  unfold s4
  rw [IntKind.wrap_i32]
  omega

set_option maxRecDepth 100000 in
set_option maxHeartbeats 1000000 in
theorem read_any (A : Option Addr) (n c : Nat) (bs : List UInt8) (w : World) (hv : Vals w [] A (bs.map B)) (hl : bs.length = n) (hA : A = none → c = 0) (hn : n ≤ 65536) :
    Calls Try.prog 24 #[.slice A n c] w fun e w' => ∃ g, e = .returned (.slice (some ⟨g, 0, none⟩) 15 15) ∧ w.heap.size ≤ g ∧ Blk w' g 3 (cellsOf (readOf bs)) ∧ Kept [] w w' := by
  have HV := hide hv
  have HA := hide hA
  subst hl
  clear hv hA
  have hmk : ∀ w : World, (Instr.makeSlice 22 (.int .i64 15) (.int .i64 15)).run Try.prog w = .ok (.slice (some ⟨w.heap.size, 0, none⟩) 15 15) (w.alloc (.cells (cellsOf (List.replicate 15 0)) 3)) := fun w => run_make_ints 15 (by omega) w
  go_enter Try.func24, Try.ntmps24
  go_wp2_with fail
  refine (from_at A c bs _ HV.out HA.out hn).mono ?_
  rintro e w1 ⟨p, b, cap, A', rfl, hp, hb, hb1, hr, hk⟩
  have hp1 := hr.lt
  have hr2 := hr.kept (S := []) ((Kept.refl [] w1).alloc (.cells (cellsOf (List.replicate 15 0)) 3)) (by simp) (by simp)
  have HR0 : Hid (RowAt (w1.alloc (.cells (cellsOf (List.replicate 15 0)) 3)) p b cap A' (rk bs 0)) := hide hr2
  have HK0 := hide (hk.alloc (.cells (cellsOf (List.replicate 15 0)) 3))
  have HB0 : Hid (Blk (w1.alloc (.cells (cellsOf (List.replicate 15 0)) 3)) w1.heap.size 3 (cellsOf (upto bs 0))) := hide (by rw [upto_zero]; exact Blk.new w1 _ _)
  obtain ⟨g, hg⟩ : ∃ g, w1.heap.size = g := ⟨_, rfl⟩
  have hgp : g ≠ p := by omega
  have hgb : g ≠ b := by omega
  have HG : Hid (w.heap.size ≤ g) := hide (by have := hk.size; omega)
  have HP := hide hp
  rw [hg] at HB0
  clear hr hr2 hk hp hb hb1 hp1
  generalize hz : cellsOf (List.replicate 15 0) = Z at *
  clear hz
  go_wp2
  go_loopw [13] (fun i wr => ∃ j : Nat, j ≤ 15 ∧ i = .int .i64 j ∧ Hid (RowAt wr p b cap A' (rk bs j)) ∧ Hid (Blk wr g 3 (cellsOf (upto bs j))) ∧ Hid (Kept [] w wr)) (fun i wr => 15 - (intOf i).toNat)
  case atStart => exact ⟨0, by omega, rfl, HR0, HB0, HK0⟩
  case round =>
    clear HR0 HB0 HK0
    obtain ⟨j, hj, rfl, HR, HB, HK⟩ := hrel
    by_cases hlt : j < 15
    · go_wp2_with fail
      refine (row.get_at p b cap A' _ 4 _ HR.out).mono ?_
      rintro e w2 ⟨rfl, hr, hk⟩
      rw [raw_eq, rk_succ] at *
      have HR2 := hide hr
      have HB2 := hide (hk.blk HB.out (by simp; exact hgp))
      have HK2 := hide (HK.out.trans hk (by simp; exact HP.out))
      clear hr hk HR HB HK
      obtain ⟨y, hy⟩ : ∃ y, raw bs j = y := ⟨_, rfl⟩
      obtain ⟨s, hs⟩ : ∃ s, s4 y = s := ⟨_, rfl⟩
      have hb := raw_bd bs j
      rw [hy] at hb
      obtain ⟨e1, e2, e3⟩ := s4_bd y hb
      rw [hs] at e1 e2 e3
      have hset := upto_set bs j hlt
      rw [hy, hs] at hset
      have HSET := hide hset
      rw [hy]
      have b0 : w2.cell? ⟨g, j, none⟩ = (cellsOf (upto bs j))[j]? := HB2.out.cell j
      obtain ⟨v0, hv0⟩ : ∃ v0, (cellsOf (upto bs j))[j]? = some v0 := ⟨_, Array.getElem?_eq_getElem (by
        have := upto_len bs j hj
        simp [cellsOf, this]; exact hlt)⟩
      rw [hv0] at b0
      have bf := HB2.out.frozen j
      have HB3 : Hid (Blk (w2.setCell ⟨g, j, none⟩ (.int .i64 s)) g 3 (cellsOf (upto bs (j + 1)))) := hide (by
        have := HB2.out.set_ j (.int .i64 s)
        rw [cellsOf_set, HSET.out] at this
        exact this)
      have hks : Kept [g] w2 (w2.setCell ⟨g, j, none⟩ (.int .i64 s)) := (Kept.refl [g] w2).set_ (b := g) (.inl (by simp)) j (.int .i64 s)
      have HR3 := hide (HR2.out.kept hks (by simp; exact Ne.symm hgp) (by simp; exact Ne.symm hgb))
      have HK3 := hide (HK2.out.trans hks (by simp; exact HG.out))
      clear hv0 hset hks hy hs hb HR2 HB2 HK2
      go_wp2
      go_roundw
      case rel => exact ⟨j + 1, by omega, by go_num, HR3, HB3, HK3⟩
      case measure => simp [intOf]; omega
    · have h15 : j = 15 := by omega
      have hb := HB.out
      rw [h15, upto_all] at hb
      have HB1 := hide hb
      clear hb HB HR
      go_wp2
      go_ret
      exact ⟨g, rfl, HG.out, HB1.out, HK.out⟩

set_option maxRecDepth 100000 in
set_option maxHeartbeats 1000000 in
theorem decode_any (A : Option Addr) (n c : Nat) (bs : List UInt8) (w : World) (hv : Vals w [] A (bs.map B)) (hl : bs.length = n) (hA : A = none → c = 0) (hn : n ≤ 65536) :
    Calls Try.prog 9 #[.slice A n c] w fun e w' => ∃ A' n' c', e = .returned (.tuple #[.slice A' n' c', .int .i64 (decode bs).2]) ∧ (decode bs).1.length = n' ∧ (∀ S : List Nat, (∀ i ∈ S, i < w.heap.size) → Vals w' S A' ((decode bs).1.map I)) ∧ Kept [] w w' := by
  have HV := hide hv
  have HA := hide hA
  have HL := hide hl
  clear hv hA hl
  go_enter Try.func9, Try.ntmps9
  go_wp2_with fail
  refine (read_any A n c bs _ HV.out HL.out HA.out hn).mono ?_
  rintro e w1 ⟨g, rfl, hg, hb, hk⟩
  have HB1 := hide hb
  have HK1 := hide hk
  have HG := hide hg
  clear hb hk hg
  obtain ⟨u, hu⟩ : ∃ u, readOf bs = u := ⟨_, rfl⟩
  have hul : u.length = 15 := by rw [← hu]; exact readOf_len bs
  rw [hu] at HB1
  have HU := hide hu
  have HUL := hide hul
  clear hu hul
  go_wp2_with fail
  refine (encode_any (some ⟨g, 0, none⟩) 15 15 u _ (cells_vals HB1.out (by simp)) HUL.out).mono ?_
  rintro e w2 ⟨A2, n2, c2, rfl, hn2, hnb, hk⟩
  have HK2 := hide (HK1.out.trans hk (by simp))
  have HB2 := hide (hk.blk HB1.out (by simp))
  have HN2 := hide (hnb.vals (S := []) (by simp))
  have HV2 := hide (HV.out.kept HK2.out (by simp))
  clear hk hnb HK1 HB1
  have hd : decode bs = if may u = true ∧ bytes u = bs then (u, 0) else ([], 2) := by unfold decode; rw [HU.out]
  by_cases hm : may u = true
  · have e1 : encode u = (bytes u, 0) := if_pos hm
    rw [e1] at HN2 hn2 ⊢
    have HN := hide hn2
    by_cases hq : bytes u = bs
    · rw [if_pos ⟨hm, hq⟩] at hd
      have HD := hide hd
      clear hd e1 hn2
      go_wp2_with fail
      refine (bytesEqual_any A2 A n2 n c2 c (bytes u) bs _ HN.out.symm HL.out HN2.out HV2.out).mono ?_
      rintro e w3 ⟨rfl, rfl⟩
      rw [decide_eq_true hq]
      go_wp2
      go_ret2
      exact ⟨some ⟨g, 0, none⟩, 15, 15, by rw [HD.out]; rfl, by rw [HD.out]; exact HUL.out, fun S hS => by rw [HD.out]; exact cells_vals HB2.out (fun hm => by have := hS g hm; have := HG.out; omega), HK2.out⟩
    · rw [if_neg (fun h => hq h.2)] at hd
      have HD := hide hd
      clear hd e1 hn2
      go_wp2_with fail
      refine (bytesEqual_any A2 A n2 n c2 c (bytes u) bs _ HN.out.symm HL.out HN2.out HV2.out).mono ?_
      rintro e w3 ⟨rfl, rfl⟩
      rw [decide_eq_false hq]
      go_wp2
      go_ret2
      exact ⟨none, 0, 0, by rw [HD.out]; rfl, by rw [HD.out]; rfl, fun S hS => by rw [HD.out]; exact Vals.nil _ _ _, HK2.out⟩
  · have e1 : encode u = ([], 1) := if_neg hm
    rw [e1] at HN2 hn2 ⊢
    rw [if_neg (fun h => hm h.1)] at hd
    have HD := hide hd
    clear hd e1 hn2
    go_wp2
    go_ret2
    exact ⟨none, 0, 0, by rw [HD.out]; rfl, by rw [HD.out]; rfl, fun S hS => by rw [HD.out]; exact Vals.nil _ _ _, HK2.out⟩
end Go.Proofs.Ythjhegjbpfbbdaa.pg
