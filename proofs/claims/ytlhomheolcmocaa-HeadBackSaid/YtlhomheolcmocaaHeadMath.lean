import Derived.Test.YtlhomheolcmocaaSuperMath
/-! What a segment's head is: pure. -/
namespace Go.Proofs.Ytlhomheolcmocaa.hd
open Go.RowKit Go.Proofs.Ytlhomheolcmocaa.mem Go.Proofs.Ytlhomheolcmocaa.row Go.Proofs.Ytlhomheolcmocaa.rowBack Go.Proofs.Ytlhomheolcmocaa.fill Go.Proofs.Ytlhomheolcmocaa.crc Go.Proofs.Ytlhomheolcmocaa.crcMath
open Go.Proofs.Ytlhomheolcmocaa.super (sumOf sumOf_len sumOf_inj fits1 fits4 sum_fits r0 take2 get_bd1 get_bd4)

/-- Its numbers: Seg, Mount, LSN, Prev. -/
structure Hd where
  (g m l v : Int)
deriving DecidableEq
def Hd.zero : Hd := ⟨0, 0, 0, 0⟩
def Hd.may (H : Hd) : Bool := decide (0 ≤ H.g ∧ H.g ≤ 31) && (decide (1 ≤ H.m ∧ H.m ≤ 2147483647) && (decide (1 ≤ H.l ∧ H.l ≤ 2147483647) && decide (0 ≤ H.v ∧ H.v ≤ 4294967295)))
theorem Hd.may_iff (H : Hd) : H.may = true ↔ (0 ≤ H.g ∧ H.g ≤ 31) ∧ (1 ≤ H.m ∧ H.m ≤ 2147483647) ∧ (1 ≤ H.l ∧ H.l ≤ 2147483647) ∧ (0 ≤ H.v ∧ H.v ≤ 4294967295) := by
  simp only [Hd.may, Bool.and_eq_true, decide_eq_true_eq]

/-- Its bytes ahead of the sum, and all of them. -/
def Hd.head (H : Hd) : List UInt8 := ([75, 72] ++ bytesOf 1 [H.g]) ++ bytesOf 4 [H.m, H.l, H.v]
theorem Hd.head_len (H : Hd) : H.head.length = 15 := by simp [Hd.head, bytesOf_length]
def Hd.body (H : Hd) : List UInt8 := H.head ++ List.replicate 45 0
theorem Hd.body_len (H : Hd) : H.body.length = 60 := by simp [Hd.body, Hd.head_len]
def Hd.bytes (H : Hd) : List UInt8 := H.body ++ sumOf H.body
theorem Hd.bytes_len (H : Hd) : H.bytes.length = 64 := by simp [Hd.bytes, Hd.body_len, sumOf_len]

/-- How one is read: row by row. -/
def r1 (bs : List UInt8) : Row := ((r0 bs).get 1).2.2
def r2 (bs : List UInt8) : Row := ((r1 bs).get 4).2.2
def r3 (bs : List UInt8) : Row := ((r2 bs).get 4).2.2
def readOf (bs : List UInt8) : Hd := ⟨((r0 bs).get 1).1, ((r1 bs).get 4).1, ((r2 bs).get 4).1, ((r3 bs).get 4).1⟩

theorem read_bytes (H : Hd) (h : H.may = true) : readOf H.bytes = H := by
  obtain ⟨hg, hm, hl, hv⟩ := (H.may_iff).1 h
  obtain ⟨g, m, l, v⟩ := H
  simp only at hg hm hl hv
  have f1 := fits1 g (by omega) (by omega)
  have f2 := fits4 m (by omega) (by omega)
  have f3 := fits4 l (by omega) (by omega)
  have f4 := fits4 v (by omega) (by omega)
  generalize hb : Hd.bytes ⟨g, m, l, v⟩ = bs
  obtain ⟨z, hz⟩ : ∃ z, bs = [75, 72] ++ (bytesOf 1 [g] ++ (bytesOf 4 [m] ++ (bytesOf 4 [l] ++ (bytesOf 4 [v] ++ z)))) :=
    ⟨List.replicate 45 0 ++ sumOf (Hd.body ⟨g, m, l, v⟩), by
      rw [← hb]
      simp only [Hd.bytes, Hd.body, Hd.head]
      rw [bytesOf_cons 4 (by omega) m [l, v], bytesOf_cons 4 (by omega) l [v]]
      simp only [List.append_assoc, List.cons_append, List.nil_append]⟩
  have l1 : ∀ n : Int, (bytesOf 1 [n]).length = 1 := fun n => by simp [bytesOf_length]
  have l4 : ∀ n : Int, (bytesOf 4 [n]).length = 4 := fun n => by simp [bytesOf_length]
  have e0 : r0 bs = ⟨bs, 2⟩ := take2 bs (by rw [hz]; simp)
  have g1 : Row.get ⟨bs, 2⟩ 1 = (g, true, ⟨bs, 3⟩) := by
    have := get_here [75, 72] (bytesOf 4 [m] ++ (bytesOf 4 [l] ++ (bytesOf 4 [v] ++ z))) 1 2 g (by simp) f1 rfl
    rw [← hz] at this
    exact this
  have g2 : Row.get ⟨bs, 3⟩ 4 = (m, true, ⟨bs, 7⟩) := by
    have := get_here ([75, 72] ++ bytesOf 1 [g]) (bytesOf 4 [l] ++ (bytesOf 4 [v] ++ z)) 4 3 m (by simp) f2 (by simp [l1])
    rw [List.append_assoc, ← hz] at this
    exact this
  have g3 : Row.get ⟨bs, 7⟩ 4 = (l, true, ⟨bs, 11⟩) := by
    have := get_here ([75, 72] ++ bytesOf 1 [g] ++ bytesOf 4 [m]) (bytesOf 4 [v] ++ z) 4 7 l (by simp) f3 (by simp [l1, l4])
    simp only [List.append_assoc] at this
    rw [← hz] at this
    exact this
  have g4 : Row.get ⟨bs, 11⟩ 4 = (v, true, ⟨bs, 15⟩) := by
    have := get_here ([75, 72] ++ bytesOf 1 [g] ++ bytesOf 4 [m] ++ bytesOf 4 [l]) z 4 11 v (by simp) f4 (by simp [l1, l4])
    simp only [List.append_assoc] at this
    rw [← hz] at this
    exact this
  have e1 : r1 bs = ⟨bs, 3⟩ := by unfold r1; rw [e0, g1]
  have e2 : r2 bs = ⟨bs, 7⟩ := by unfold r2; rw [e1, g2]
  have e3 : r3 bs = ⟨bs, 11⟩ := by unfold r3; rw [e2, g3]
  unfold readOf
  rw [e0, e1, e2, e3, g1, g2, g3, g4]

/-- Encode's answer: its bytes or none, and the error. -/
def encode (H : Hd) : List UInt8 × Int := if H.may = true then (H.bytes, 0) else ([], 1)
/-- Decode's. -/
def decode (bs : List UInt8) : Hd × Int := if (readOf bs).may = true ∧ (readOf bs).bytes = bs then (readOf bs, 0) else (Hd.zero, 2)
theorem decode_bytes (H : Hd) (h : H.may = true) : decode H.bytes = (H, 0) := by
  unfold decode
  rw [read_bytes H h, if_pos ⟨h, rfl⟩]
theorem decode_or (bs : List UInt8) : (∃ H : Hd, H.may = true ∧ H.bytes = bs ∧ decode bs = (H, 0)) ∨ decode bs = (Hd.zero, 2) := by
  by_cases h : (readOf bs).may = true ∧ (readOf bs).bytes = bs
  · exact .inl ⟨readOf bs, h.1, h.2, if_pos h⟩
  · exact .inr (if_neg h)
theorem decode_no (bs : List UInt8) (h : ∀ H : Hd, H.may = true → H.bytes ≠ bs) : decode bs = (Hd.zero, 2) := by
  rcases decode_or bs with ⟨H, h1, h2, _⟩ | h3
  · exact absurd h2 (h H h1)
  · exact h3
theorem bytes_body (H : Hd) : H.bytes.take 60 = H.body := List.take_left' H.body_len
theorem bytes_sum (H : Hd) : H.bytes.drop 60 = sumOf H.body := List.drop_left' H.body_len
theorem bytes_start (H : Hd) : H.bytes[0]? = some 75 ∧ H.bytes[1]? = some 72 := by
  simp only [Hd.bytes, Hd.body, Hd.head, List.append_assoc, List.cons_append]
  exact ⟨rfl, rfl⟩
theorem decode_start (bs : List UInt8) (h : bs[0]? ≠ some 75) : decode bs = (Hd.zero, 2) :=
  decode_no bs fun H _ e => h (by rw [← e]; exact (bytes_start H).1)

/-- Bits turned ahead of the sum: none, just if any is. -/
theorem decode_turned (H : Hd) (h : H.may = true) (o : List UInt8) (first p : Nat) (any : Bool) (ho : TurnedAt H.body o first p 32 any) (hf : first < 480) (u : Hd) (e : Int) (hd : decode (o ++ sumOf H.body) = (u, e)) :
    (any = true ∧ e = 2) ∨ (any = false ∧ e = 0) := by
  have hlo : o.length = 60 := by rw [ho.len]; exact H.body_len
  have hs := ho.sum (by rw [H.body_len]; exact hf)
  rcases decode_or (o ++ sumOf H.body) with ⟨T, _, h2, h3⟩ | h3
  · rw [h3, Prod.mk.injEq] at hd
    have e1 := congrArg (List.take 60) h2
    have e2 := congrArg (List.drop 60) h2
    rw [bytes_body, List.take_left' hlo] at e1
    rw [bytes_sum, List.drop_left' hlo, e1] at e2
    exact .inr ⟨hs.1 (sumOf_inj _ _ e2), hd.2.symm⟩
  · rw [h3, Prod.mk.injEq] at hd
    cases any with
    | true => exact .inl ⟨rfl, hd.2.symm⟩
    | false =>
      have hb : o = H.body := ho.same rfl
      rw [hb] at h3
      have h4 := decode_bytes H h
      unfold Hd.bytes at h4
      rw [h3, Prod.mk.injEq] at h4
      exact absurd h4.2 (by decide)

/-- Fits's answer, at a place's Seg, LSN, Prev and Mount. -/
def fits (bs : List UInt8) (s l v m : Int) : Bool := decide ((decode bs).2 = 0) && (decide ((decode bs).1.g = s) && (decide ((decode bs).1.l = l) && (decide ((decode bs).1.v = v) && decide (m ≤ (decode bs).1.m))))
theorem fits_bytes (H : Hd) (h : H.may = true) (s l v m : Int) : fits H.bytes s l v m = (decide (H.g = s) && (decide (H.l = l) && (decide (H.v = v) && decide (m ≤ H.m)))) := by
  unfold fits
  rw [decode_bytes H h]
  rfl
end Go.Proofs.Ytlhomheolcmocaa.hd
