import Derived.Test.YthjhegjbpfbbdaaSuperMath
/-! What a page of the map is: pure. -/
namespace Go.Proofs.Ythjhegjbpfbbdaa.pg
open Go.RowKit Go.Proofs.Ythjhegjbpfbbdaa.mem Go.Proofs.Ythjhegjbpfbbdaa.row Go.Proofs.Ythjhegjbpfbbdaa.rowBack Go.Proofs.Ythjhegjbpfbbdaa.fill Go.Proofs.Ythjhegjbpfbbdaa.crc Go.Proofs.Ythjhegjbpfbbdaa.crcMath
open Go.Proofs.Ythjhegjbpfbbdaa.super (sumOf sumOf_len sumOf_inj fits4 sum_fits get_bd4)

/-- A ref as a number of four bytes, and back; and back as the reference has it. -/
def w4 (x : Int) : Int := x % 4294967296
def s4 (x : Int) : Int := if x < 2147483648 then x else x - 4294967296
def t4 (x : Int) : Int := if x = 4294967295 then -1 else x
def good (x : Int) : Bool := decide (-1 ≤ x ∧ x ≤ 4095)
def may (l : List Int) : Bool := decide (l.length ≤ 15) && l.all good
theorem may_iff (l : List Int) : may l = true ↔ l.length ≤ 15 ∧ ∀ x ∈ l, -1 ≤ x ∧ x ≤ 4095 := by
  simp only [may, good, Bool.and_eq_true, decide_eq_true_eq, List.all_eq_true]
theorem w4_bd (x : Int) : 0 ≤ w4 x ∧ w4 x < 4294967296 := by unfold w4; omega
theorem w4_fits (x : Int) : fitsW (4 : Nat) (w4 x) = true := fits4 _ (w4_bd x).1 (w4_bd x).2
theorem w4_zero : w4 0 = 0 := by decide
theorem s4_w4 (x : Int) (h : -1 ≤ x ∧ x ≤ 4095) : s4 (w4 x) = x := by unfold s4 w4; omega

/-- All fifteen refs. -/
def full (l : List Int) : List Int := l ++ List.replicate (15 - l.length) 0
theorem full_len (l : List Int) (h : l.length ≤ 15) : (full l).length = 15 := by simp [full]; omega
theorem full_full (l : List Int) (h : l.length ≤ 15) : full (full l) = full l := by
  show full l ++ List.replicate (15 - (full l).length) 0 = full l
  rw [full_len l h]
  simp
theorem full_may (l : List Int) (h : may l = true) : may (full l) = true := by
  rw [may_iff] at h ⊢
  refine ⟨Nat.le_of_eq (full_len l h.1), fun x hx => ?_⟩
  rcases List.mem_append.1 hx with hx | hx
  · exact h.2 x hx
  · have := List.eq_of_mem_replicate hx
    omega

theorem zeros4 (k : Nat) : bytesOf 4 (List.replicate k 0) = List.replicate (4 * k) 0 := by
  induction k with
  | zero => exact bytesOf_nil 4
  | succ k ih =>
    rw [List.replicate_succ, bytesOf_cons 4 (by omega), ih, show 4 * (k + 1) = 4 + 4 * k by omega, ← List.replicate_append_replicate]
    congr 1
theorem map_zeros (k : Nat) : (List.replicate k (0 : Int)).map w4 = List.replicate k 0 := by rw [List.map_replicate, w4_zero]

/-- Its bytes ahead of the sum, and all of them. -/
def body (l : List Int) : List UInt8 := bytesOf 4 ((full l).map w4)
theorem body_len (l : List Int) (h : l.length ≤ 15) : (body l).length = 60 := by simp [body, bytesOf_length, full_len l h]
theorem body_eq (l : List Int) : body l = bytesOf 4 (l.map w4) ++ List.replicate (4 * (15 - l.length)) 0 := by
  unfold body full
  rw [List.map_append, bytesOf_append _ _ _ (by omega), map_zeros, zeros4]
def bytes (l : List Int) : List UInt8 := body l ++ sumOf (body l)
theorem bytes_len (l : List Int) (h : l.length ≤ 15) : (bytes l).length = 64 := by simp [bytes, body_len l h, sumOf_len]
theorem body_full (l : List Int) (h : l.length ≤ 15) : body (full l) = body l := by
  show bytesOf 4 ((full (full l)).map w4) = _
  rw [full_full l h]
  rfl
theorem bytes_full (l : List Int) (h : l.length ≤ 15) : bytes (full l) = bytes l := by
  unfold bytes
  rw [body_full l h]

/-- How one is read: number by number. -/
def rk (bs : List UInt8) : Nat → Row
  | 0 => ⟨bs, 0⟩
  | k + 1 => ((rk bs k).get 4).2.2
theorem rk_zero (bs : List UInt8) : rk bs 0 = ⟨bs, 0⟩ := rfl
theorem rk_succ (bs : List UInt8) (k : Nat) : ((rk bs k).get 4).2.2 = rk bs (k + 1) := rfl
def raw (bs : List UInt8) (k : Nat) : Int := ((rk bs k).get 4).1
theorem raw_eq (bs : List UInt8) (k : Nat) : ((rk bs k).get 4).1 = raw bs k := rfl
theorem raw_bd (bs : List UInt8) (k : Nat) : 0 ≤ raw bs k ∧ raw bs k < 4294967296 := get_bd4 _
def readK (bs : List UInt8) (n : Nat) : List Int := (List.range n).map fun k => s4 (raw bs k)
def rreadK (bs : List UInt8) (n : Nat) : List Int := (List.range n).map fun k => t4 (raw bs k)
theorem readK_len (bs : List UInt8) (n : Nat) : (readK bs n).length = n := by simp [readK]
theorem rreadK_len (bs : List UInt8) (n : Nat) : (rreadK bs n).length = n := by simp [rreadK]
theorem readK_succ (bs : List UInt8) (n : Nat) : readK bs (n + 1) = readK bs n ++ [s4 (raw bs n)] := by simp [readK, List.range_succ]
theorem rreadK_succ (bs : List UInt8) (n : Nat) : rreadK bs (n + 1) = rreadK bs n ++ [t4 (raw bs n)] := by simp [rreadK, List.range_succ]
def readOf (bs : List UInt8) : List Int := readK bs 15
def rreadOf (bs : List UInt8) : List Int := rreadK bs 15
theorem readOf_len (bs : List UInt8) : (readOf bs).length = 15 := readK_len bs 15
theorem rreadOf_len (bs : List UInt8) : (rreadOf bs).length = 15 := rreadK_len bs 15
theorem s4_t4 (x : Int) (h : 0 ≤ x ∧ x < 4294967296) (g : (-1 ≤ s4 x ∧ s4 x ≤ 4095) ∨ (-1 ≤ t4 x ∧ t4 x ≤ 4095)) : t4 x = s4 x := by
  unfold s4 t4 at *
  repeat' split at g
  all_goals omega
theorem read_read (bs : List UInt8) (h : may (readOf bs) = true ∨ may (rreadOf bs) = true) : rreadOf bs = readOf bs := by
  unfold readOf rreadOf readK rreadK at *
  refine List.map_congr_left fun k hk => s4_t4 _ (raw_bd bs k) ?_
  rcases h with h | h
  · exact .inl (((may_iff _).1 h).2 _ (List.mem_map.2 ⟨k, hk, rfl⟩))
  · exact .inr (((may_iff _).1 h).2 _ (List.mem_map.2 ⟨k, hk, rfl⟩))

theorem get_k (l : List Int) (z : List UInt8) (k : Nat) (hk : k < l.length) (hf : ∀ n ∈ l, fitsW (4 : Nat) n = true) : Row.get ⟨bytesOf 4 l ++ z, 4 * k⟩ 4 = (l[k], true, ⟨bytesOf 4 l ++ z, 4 * (k + 1)⟩) := by
  have e : bytesOf 4 l ++ z = bytesOf 4 (l.take k) ++ (bytesOf 4 [l[k]] ++ (bytesOf 4 (l.drop (k + 1)) ++ z)) := by
    rw [← List.append_assoc (bytesOf 4 [l[k]]), ← bytesOf_cons 4 (by omega), ← List.drop_eq_getElem_cons hk, ← List.append_assoc, ← bytesOf_append _ _ _ (by omega), List.take_append_drop]
  have := get_here (bytesOf 4 (l.take k)) (bytesOf 4 (l.drop (k + 1)) ++ z) 4 (4 * k) l[k] (by simp) (hf _ (List.getElem_mem hk)) (by rw [bytesOf_length, List.length_take]; omega)
  rw [← e] at this
  exact this
theorem rk_bytes (l : List Int) (z : List UInt8) (k : Nat) (h : k ≤ l.length) (hf : ∀ n ∈ l, fitsW (4 : Nat) n = true) : rk (bytesOf 4 l ++ z) k = ⟨bytesOf 4 l ++ z, 4 * k⟩ := by
  induction k with
  | zero => rfl
  | succ k ih =>
    rw [← rk_succ, ih (by omega), get_k l z k h hf]
theorem raw_bytes (l : List Int) (z : List UInt8) (k : Nat) (hk : k < l.length) (hf : ∀ n ∈ l, fitsW (4 : Nat) n = true) : raw (bytesOf 4 l ++ z) k = l[k] := by
  unfold raw
  rw [rk_bytes l z k (by omega) hf, get_k l z k hk hf]

theorem read_bytes (l : List Int) (h : may l = true) : readOf (bytes l) = full l := by
  have hm := full_may l h
  rw [may_iff] at h
  have hf : ∀ n ∈ (full l).map w4, fitsW (4 : Nat) n = true := fun n hn => by
    obtain ⟨x, _, rfl⟩ := List.mem_map.1 hn
    exact w4_fits x
  have hl := full_len l h.1
  refine List.ext_getElem (by rw [readOf_len, hl]) fun k h1 h2 => ?_
  have hk : k < ((full l).map w4).length := by rw [List.length_map]; exact h2
  have e := raw_bytes ((full l).map w4) (sumOf (body l)) k hk hf
  have e2 : (readOf (bytes l))[k] = s4 (raw (bytes l) k) := by simp [readOf, readK]
  rw [e2]
  show s4 (raw (bytesOf 4 ((full l).map w4) ++ sumOf (body l)) k) = _
  rw [e, List.getElem_map]
  exact s4_w4 _ (((may_iff _).1 hm).2 _ (List.getElem_mem h2))

/-- Encode's answer: its bytes or none, and the error. -/
def encode (l : List Int) : List UInt8 × Int := if may l = true then (bytes l, 0) else ([], 1)
/-- Decode's. -/
def decode (bs : List UInt8) : List Int × Int := if may (readOf bs) = true ∧ bytes (readOf bs) = bs then (readOf bs, 0) else ([], 2)
theorem encode_len (l : List Int) : (encode l).1.length ≤ 64 := by
  unfold encode
  split
  · rename_i h
    exact Nat.le_of_eq (bytes_len l ((may_iff l).1 h).1)
  · simp
theorem decode_fst (bs : List UInt8) : (decode bs).1.length ≤ 15 := by
  unfold decode
  split
  · exact Nat.le_of_eq (readOf_len bs)
  · simp
theorem rdecode (bs : List UInt8) : decode bs = if may (rreadOf bs) = true ∧ bytes (rreadOf bs) = bs then (rreadOf bs, 0) else ([], 2) := by
  unfold decode
  by_cases h : may (readOf bs) = true ∨ may (rreadOf bs) = true
  · rw [read_read bs h]
  · rw [not_or] at h
    rw [if_neg (fun g => h.1 g.1), if_neg (fun g => h.2 g.1)]
theorem decode_bytes (l : List Int) (h : may l = true) : decode (bytes l) = (full l, 0) := by
  unfold decode
  rw [read_bytes l h, if_pos ⟨full_may l h, bytes_full l ((may_iff l).1 h).1⟩]
theorem decode_or (bs : List UInt8) : (∃ l : List Int, may l = true ∧ bytes l = bs ∧ decode bs = (l, 0)) ∨ decode bs = ([], 2) := by
  by_cases h : may (readOf bs) = true ∧ bytes (readOf bs) = bs
  · exact .inl ⟨readOf bs, h.1, h.2, if_pos h⟩
  · exact .inr (if_neg h)
theorem decode_no (bs : List UInt8) (h : ∀ l : List Int, may l = true → bytes l ≠ bs) : decode bs = ([], 2) := by
  rcases decode_or bs with ⟨l, h1, h2, _⟩ | h3
  · exact absurd h2 (h l h1)
  · exact h3
theorem decode_len (bs : List UInt8) (h : bs.length ≠ 64) : decode bs = ([], 2) :=
  decode_no bs fun l hl e => h (by rw [← e]; exact bytes_len l ((may_iff l).1 hl).1)
theorem bytes_body (l : List Int) (h : l.length ≤ 15) : (bytes l).take 60 = body l := List.take_left' (body_len l h)
theorem bytes_sum (l : List Int) (h : l.length ≤ 15) : (bytes l).drop 60 = sumOf (body l) := List.drop_left' (body_len l h)

/-- Bits turned ahead of the sum: none, just if any is. -/
theorem decode_turned (l : List Int) (h : may l = true) (o : List UInt8) (first p : Nat) (any : Bool) (ho : TurnedAt (body l) o first p 32 any) (hf : first < 480) (u : List Int) (e : Int) (hd : decode (o ++ sumOf (body l)) = (u, e)) :
    (any = true ∧ e = 2) ∨ (any = false ∧ e = 0) := by
  have hl := ((may_iff l).1 h).1
  have hlo : o.length = 60 := by rw [ho.len]; exact body_len l hl
  have hs := ho.sum (by rw [body_len l hl]; exact hf)
  rcases decode_or (o ++ sumOf (body l)) with ⟨T, hT, h2, h3⟩ | h3
  · rw [h3, Prod.mk.injEq] at hd
    have hTl := ((may_iff T).1 hT).1
    have e1 := congrArg (List.take 60) h2
    have e2 := congrArg (List.drop 60) h2
    rw [bytes_body T hTl, List.take_left' hlo] at e1
    rw [bytes_sum T hTl, List.drop_left' hlo, e1] at e2
    exact .inr ⟨hs.1 (sumOf_inj _ _ e2), hd.2.symm⟩
  · rw [h3, Prod.mk.injEq] at hd
    cases any with
    | true => exact .inl ⟨rfl, hd.2.symm⟩
    | false =>
      have hb : o = body l := ho.same rfl
      rw [hb] at h3
      have h4 := decode_bytes l h
      unfold bytes at h4
      rw [h3, Prod.mk.injEq] at h4
      exact absurd h4.2 (by decide)

/-- The array of numbers behind i rounds. -/
def nums (l : List Int) (i : Nat) : List Int := (l.take i).map w4 ++ List.replicate (15 - i) 0
theorem nums_zero (l : List Int) : nums l 0 = List.replicate 15 0 := by simp [nums]
theorem nums_len (l : List Int) (i : Nat) (h : i ≤ l.length) (h15 : l.length ≤ 15) : (nums l i).length = 15 := by simp [nums]; omega
theorem nums_set (l : List Int) (i : Nat) (x : Int) (h : l[i]? = some x) (h15 : l.length ≤ 15) : (nums l i).set i (w4 x) = nums l (i + 1) := by
  have hi : i < l.length := by
    rcases Nat.lt_or_ge i l.length with g | g
    · exact g
    · rw [List.getElem?_eq_none g] at h
      cases h
  have h1 : ((l.take i).map w4).length = i := by rw [List.length_map, List.length_take]; omega
  unfold nums
  rw [List.set_append, h1, if_neg (by omega), Nat.sub_self, show 15 - i = (15 - (i + 1)) + 1 by omega, List.replicate_succ, List.set_cons_zero, List.take_add_one, h]
  simp
theorem nums_all (l : List Int) : nums l l.length = (full l).map w4 := by
  unfold nums full
  rw [List.take_length, List.map_append, map_zeros]
end Go.Proofs.Ythjhegjbpfbbdaa.pg
