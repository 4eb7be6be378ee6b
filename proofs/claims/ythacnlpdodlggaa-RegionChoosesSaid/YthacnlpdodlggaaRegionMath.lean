import Derived.Test.YthacnlpdodlggaaSuperMath
/-! What a region is: pure. -/
namespace Go.Proofs.Ythacnlpdodlggaa.rg
open Go.RowKit Go.Proofs.Ythacnlpdodlggaa.mem Go.Proofs.Ythacnlpdodlggaa.row Go.Proofs.Ythacnlpdodlggaa.rowBack Go.Proofs.Ythacnlpdodlggaa.fill Go.Proofs.Ythacnlpdodlggaa.crc Go.Proofs.Ythacnlpdodlggaa.crcMath
open Go.Proofs.Ythacnlpdodlggaa.super (sumOf sumOf_len sumOf_inj fits1 fits4 sum_fits r0 take2 get_bd1 get_bd4)

/-- A segment's use: State, Stamp. -/
structure Us where
  (s t : Int)
deriving DecidableEq
def Us.zero : Us := ⟨0, 0⟩
/-- Gen, View, Mode, Epoch, Seq, Done; At's Seg, Off, LSN, Prev, Mount; Base, Over, Segs. -/
structure Rg where
  (g v m e q d s o l p k : Int)
  (bs ov : List Int)
  (us : List Us)
deriving DecidableEq
def Rg.zero : Rg := ⟨0, 0, 0, 0, 0, 0, 0, 0, 0, 0, 0, [], [], []⟩
/-- A device: Blocks, Segs, Len, RegionLen, Pages. -/
structure Dv where
  (b : Int) (n : Nat) (z : Int) (r y : Nat)
structure Dv.ok (D : Dv) : Prop where
  hb : 1 ≤ D.b ∧ D.b ≤ 64
  hn : 8 ≤ D.n ∧ D.n ≤ 32
  hz : 24 ≤ D.z ∧ D.z ≤ 64
  hr : (D.r : Int) = (106 + 5 * (D.n : Int)) / 64
  hy : (D.y : Int) = (D.b + 14) / 15
theorem Dv.ok.bd {D : Dv} (h : D.ok) : 2 ≤ D.r ∧ D.r ≤ 4 ∧ 1 ≤ D.y ∧ D.y ≤ 5 ∧ 43 + 5 * D.n ≤ 64 * D.r := by
  obtain ⟨hb, hn, hz, hr, hy⟩ := h
  omega
theorem Dv.ext (D E : Dv) (hD : D.ok) (hE : E.ok) (hb : D.b = E.b) (hn : D.n = E.n) (hz : D.z = E.z) : D = E := by
  obtain ⟨b, n, z, r, y⟩ := D
  obtain ⟨b', n', z', r', y'⟩ := E
  simp only at hb hn hz
  subst hb hn hz
  have h1 := hD.hr
  have h2 := hE.hr
  have h3 := hD.hy
  have h4 := hE.hy
  simp only at h1 h2 h3 h4
  obtain rfl : r = r' := by omega
  obtain rfl : y = y' := by omega
  rfl

def slotsOk (l : List Int) : Prop := ∀ x ∈ l, 0 ≤ x ∧ x ≤ 1
instance (l : List Int) : Decidable (slotsOk l) := by unfold slotsOk; infer_instance
def slotsMay (y : Nat) (l : List Int) : Bool := decide (slotsOk l) && decide (l.length = y)
def Us.ok (at_ : Int) (i : Nat) (u : Us) : Prop := (0 ≤ u.s ∧ u.s ≤ 2) ∧ (0 ≤ u.t ∧ u.t ≤ 2147483647) ∧ (u.s = 1 ↔ (i : Int) = at_)
instance (at_ : Int) (i : Nat) (u : Us) : Decidable (u.ok at_ i) := by unfold Us.ok; infer_instance
def usesOk (at_ : Int) (l : List Us) : Prop := ∀ (i : Nat) (u : Us), l[i]? = some u → u.ok at_ i
noncomputable def usesMay (at_ : Int) (l : List Us) : Bool := @decide (usesOk at_ l) (Classical.propDecidable _)
theorem usesMay_yes {at_ : Int} {l : List Us} (h : usesOk at_ l) : usesMay at_ l = true := by
  unfold usesMay
  exact @decide_eq_true _ (Classical.propDecidable _) h
theorem usesMay_no {at_ : Int} {l : List Us} (h : ¬ usesOk at_ l) : usesMay at_ l = false := by
  unfold usesMay
  exact @decide_eq_false _ (Classical.propDecidable _) h
theorem usesMay_iff {at_ : Int} {l : List Us} : usesMay at_ l = true ↔ usesOk at_ l := by
  by_cases h : usesOk at_ l
  · simp [usesMay_yes h, h]
  · simp [usesMay_no h, h]
theorem usesOk_nil (at_ : Int) (l : List Us) : usesOk at_ (l.take 0) := by intro i u h; simp at h
theorem usesOk_snoc {at_ : Int} {l : List Us} {k : Nat} {u : Us} (h : usesOk at_ (l.take k)) (hu : l[k]? = some u) (ho : u.ok at_ k) : usesOk at_ (l.take (k + 1)) := by
  intro i x hx
  by_cases hi : i < k
  · rw [List.getElem?_take_of_lt (by omega)] at hx
    exact h i x (by rw [List.getElem?_take_of_lt hi]; exact hx)
  · have hlt : i < k + 1 := by
      have := (List.getElem?_eq_some_iff.1 hx).1
      rw [List.length_take] at this
      omega
    obtain rfl : i = k := by omega
    rw [List.getElem?_take_of_lt (by omega), hu] at hx
    injection hx with hx
    subst hx
    exact ho
theorem usesOk_all {at_ : Int} {l : List Us} {k : Nat} (h : usesOk at_ (l.take k)) (hk : l.length = k) : usesOk at_ l := by
  rw [List.take_of_length_le (by omega)] at h
  exact h
theorem slotsOk_snoc {l : List Int} {k : Nat} {x : Int} (h : slotsOk (l.take k)) (hx : l[k]? = some x) (ho : 0 ≤ x ∧ x ≤ 1) : slotsOk (l.take (k + 1)) := by
  intro y hy
  rw [List.take_add_one, hx] at hy
  rcases List.mem_append.1 hy with hy | hy
  · exact h y hy
  · simp at hy
    subst hy
    exact ho
theorem slotsOk_at {l : List Int} (h : slotsOk l) {k : Nat} {x : Int} (hx : l[k]? = some x) : 0 ≤ x ∧ x ≤ 1 := h x (List.mem_of_getElem? hx)

def Rg.numMay (R : Rg) : Bool := decide (1 ≤ R.g ∧ R.g ≤ 2147483647) && (decide (1 ≤ R.v ∧ R.v ≤ 2147483647) && (decide (1 ≤ R.m ∧ R.m ≤ 2) && (decide (0 ≤ R.e ∧ R.e ≤ 2147483647) && (decide (0 ≤ R.q ∧ R.q ≤ 2147483647) && decide (0 ≤ R.d ∧ R.d ≤ R.q)))))
def Rg.posMay (R : Rg) (D : Dv) : Bool := decide (0 ≤ R.s ∧ R.s ≤ (D.n : Int) - 1) && (decide (0 ≤ R.o ∧ R.o ≤ D.z - 1) && (decide (1 ≤ R.l ∧ R.l ≤ 2147483647) && (decide (0 ≤ R.p ∧ R.p ≤ 4294967295) && decide (1 ≤ R.k ∧ R.k ≤ 2147483647))))
noncomputable def Rg.may (R : Rg) (D : Dv) : Bool := R.numMay && (R.posMay D && (slotsMay D.y R.bs && (slotsMay D.y R.ov && (decide (R.us.length = D.n) && usesMay R.s R.us))))
structure Good (D : Dv) (R : Rg) : Prop where
  g : 1 ≤ R.g ∧ R.g ≤ 2147483647
  v : 1 ≤ R.v ∧ R.v ≤ 2147483647
  m : 1 ≤ R.m ∧ R.m ≤ 2
  e : 0 ≤ R.e ∧ R.e ≤ 2147483647
  q : 0 ≤ R.q ∧ R.q ≤ 2147483647
  d : 0 ≤ R.d ∧ R.d ≤ R.q
  s : 0 ≤ R.s ∧ R.s ≤ (D.n : Int) - 1
  o : 0 ≤ R.o ∧ R.o ≤ D.z - 1
  l : 1 ≤ R.l ∧ R.l ≤ 2147483647
  p : 0 ≤ R.p ∧ R.p ≤ 4294967295
  k : 1 ≤ R.k ∧ R.k ≤ 2147483647
  bs : slotsOk R.bs
  bl : R.bs.length = D.y
  ov : slotsOk R.ov
  ol : R.ov.length = D.y
  ul : R.us.length = D.n
  us : usesOk R.s R.us
theorem Rg.may_iff (R : Rg) (D : Dv) : R.may D = true ↔ Good D R := by
  simp only [Rg.may, Rg.numMay, Rg.posMay, slotsMay, Bool.and_eq_true, decide_eq_true_eq, usesMay_iff]
  constructor
  · rintro ⟨⟨h1, h2, h3, h4, h5, h6⟩, ⟨h7, h8, h9, h10, h11⟩, ⟨h12, h13⟩, ⟨h14, h15⟩, h16, h17⟩
    exact ⟨h1, h2, h3, h4, h5, h6, h7, h8, h9, h10, h11, h12, h13, h14, h15, h16, h17⟩
  · rintro ⟨h1, h2, h3, h4, h5, h6, h7, h8, h9, h10, h11, h12, h13, h14, h15, h16, h17⟩
    exact ⟨⟨h1, h2, h3, h4, h5, h6⟩, ⟨h7, h8, h9, h10, h11⟩, ⟨h12, h13⟩, ⟨h14, h15⟩, h16, h17⟩

/-- Slots as bits of a number, and back. -/
def bitsOf : List Int → Int
  | [] => 0
  | a :: l => a + 2 * bitsOf l
theorem bitsOf_snoc (l : List Int) (a : Int) : bitsOf (l ++ [a]) = bitsOf l + a * 2 ^ l.length := by
  induction l with
  | nil => simp [bitsOf]
  | cons b l ih =>
    rw [List.cons_append, bitsOf, ih, bitsOf, List.length_cons, Int.pow_succ]
    have : 2 * (a * 2 ^ l.length) = a * (2 ^ l.length * 2) := by rw [Int.mul_comm 2, Int.mul_assoc]
    omega
theorem bitsOf_bd (l : List Int) (h : slotsOk l) : 0 ≤ bitsOf l ∧ bitsOf l < 2 ^ l.length := by
  induction l with
  | nil => simp [bitsOf]
  | cons a l ih =>
    have h1 := ih (fun x hx => h x (by simp [hx]))
    have h2 := h a (by simp)
    rw [bitsOf, List.length_cons, Int.pow_succ]
    omega
def unbits (y : Nat) (x : Int) : List Int := (List.range y).map fun i => x / 2 ^ i % 2
theorem unbits_len (y : Nat) (x : Int) : (unbits y x).length = y := by simp [unbits]
theorem unbits_succ (y : Nat) (x : Int) : unbits (y + 1) x = unbits y x ++ [x / 2 ^ y % 2] := by simp [unbits, List.range_succ]
theorem unbits_cons (y : Nat) (x : Int) : unbits (y + 1) x = x % 2 :: unbits y (x / 2) := by
  unfold unbits
  rw [List.range_succ_eq_map, List.map_cons, List.map_map]
  congr 1
  · simp
  · refine List.map_congr_left fun i _ => ?_
    show x / 2 ^ (i + 1) % 2 = x / 2 / 2 ^ i % 2
    rw [Int.pow_succ, Int.mul_comm, Int.ediv_ediv_of_nonneg (by omega)]
theorem unbits_bits (l : List Int) (h : slotsOk l) : unbits l.length (bitsOf l) = l := by
  induction l with
  | nil => rfl
  | cons a l ih =>
    have h1 := ih (fun x hx => h x (by simp [hx]))
    have h2 := h a (by simp)
    rw [List.length_cons, unbits_cons, bitsOf]
    have e1 : (a + 2 * bitsOf l) % 2 = a := by omega
    have e2 : (a + 2 * bitsOf l) / 2 = bitsOf l := by omega
    rw [e1, e2, h1]

/-- Numbers, each in its width, as bytes; and how they are got. -/
def encs (l : List (Nat × Int)) : List UInt8 := l.flatMap fun p => bytesOf p.1 [p.2]
def widths (l : List (Nat × Int)) : Nat := (l.map (·.1)).sum
theorem encs_len (l : List (Nat × Int)) : (encs l).length = widths l := by
  induction l with
  | nil => rfl
  | cons p l ih =>
    have e : encs (p :: l) = bytesOf p.1 [p.2] ++ encs l := rfl
    rw [e, List.length_append, ih, bytesOf_length]
    simp [widths]
def gets : Row → List Nat → List Int × Row
  | R, [] => ([], R)
  | R, x :: xs => ((R.get x).1 :: (gets (R.get x).2.2 xs).1, (gets (R.get x).2.2 xs).2)
def fitP (p : Nat × Int) : Prop := (p.1 = 1 ∨ p.1 = 2 ∨ p.1 = 4) ∧ fitsW p.1 p.2 = true
theorem gets_encs : ∀ (l : List (Nat × Int)) (a z : List UInt8) (p : Nat), (∀ p ∈ l, fitP p) → p = a.length →
    gets ⟨a ++ (encs l ++ z), p⟩ (l.map (·.1)) = (l.map (·.2), ⟨a ++ (encs l ++ z), p + widths l⟩)
  | [], a, z, p, _, hp => rfl
  | (x, n) :: l, a, z, p, h, hp => by
    have hx := h (x, n) (by simp)
    have e : encs ((x, n) :: l) = bytesOf x [n] ++ encs l := rfl
    have eb : a ++ (encs ((x, n) :: l) ++ z) = a ++ (bytesOf x [n] ++ (encs l ++ z)) := by rw [e, List.append_assoc]
    have g := get_here a (encs l ++ z) x p n hx.1 hx.2 hp
    rw [← eb] at g
    have ih := gets_encs l (a ++ bytesOf x [n]) z (p + x) (fun q hq => h q (by simp [hq])) (by rw [List.length_append, bytesOf_length, hp]; simp)
    have eb2 : (a ++ bytesOf x [n]) ++ (encs l ++ z) = a ++ (encs ((x, n) :: l) ++ z) := by rw [eb, List.append_assoc]
    rw [eb2] at ih
    simp only [List.map_cons, gets, g, ih]
    rw [show p + widths ((x, n) :: l) = p + x + widths l by simp [widths]; omega]

/-- The uses that stand behind one another. -/
def rowU (R : Row) : Nat → Row
  | 0 => R
  | j + 1 => (((rowU R j).get 1).2.2.get 4).2.2
def useU (R : Row) (j : Nat) : Us := ⟨((rowU R j).get 1).1, (((rowU R j).get 1).2.2.get 4).1⟩
def usesU (R : Row) (n : Nat) : List Us := (List.range n).map (useU R)
theorem usesU_len (R : Row) (n : Nat) : (usesU R n).length = n := by simp [usesU]
theorem usesU_succ (R : Row) (n : Nat) : usesU R (n + 1) = usesU R n ++ [useU R n] := by simp [usesU, List.range_succ]
theorem rowU_next (R : Row) (j : Nat) : rowU R (j + 1) = rowU (rowU R 1) j := by
  induction j with
  | zero => rfl
  | succ j ih =>
    show (((rowU R (j + 1)).get 1).2.2.get 4).2.2 = (((rowU (rowU R 1) j).get 1).2.2.get 4).2.2
    rw [ih]
theorem usesU_cons (R : Row) (n : Nat) : usesU R (n + 1) = useU R 0 :: usesU (rowU R 1) n := by
  unfold usesU
  rw [List.range_succ_eq_map, List.map_cons, List.map_map]
  congr 1
  refine List.map_congr_left fun i _ => ?_
  show useU R (i + 1) = useU (rowU R 1) i
  unfold useU
  rw [rowU_next]
def useBytes (us : List Us) : List UInt8 := us.flatMap fun u => bytesOf 1 [u.s] ++ bytesOf 4 [u.t]
theorem useBytes_len (us : List Us) : (useBytes us).length = 5 * us.length := by
  induction us with
  | nil => rfl
  | cons u us ih =>
    have e : useBytes (u :: us) = (bytesOf 1 [u.s] ++ bytesOf 4 [u.t]) ++ useBytes us := rfl
    rw [e, List.length_append, List.length_append, ih, bytesOf_length, bytesOf_length, List.length_cons]
    simp
    omega
theorem useBytes_snoc (us : List Us) (u : Us) : useBytes (us ++ [u]) = (useBytes us ++ bytesOf 1 [u.s]) ++ bytesOf 4 [u.t] := by
  simp [useBytes, List.append_assoc]
theorem usesU_bytes : ∀ (us : List Us) (a z : List UInt8) (p : Nat), (∀ u ∈ us, fitsW (1 : Nat) u.s = true ∧ fitsW (4 : Nat) u.t = true) → p = a.length → usesU ⟨a ++ (useBytes us ++ z), p⟩ us.length = us
  | [], _, _, _, _, _ => rfl
  | u :: us, a, z, p, h, hp => by
    have hu := h u (by simp)
    have e : useBytes (u :: us) = bytesOf 1 [u.s] ++ (bytesOf 4 [u.t] ++ useBytes us) := by
      show (bytesOf 1 [u.s] ++ bytesOf 4 [u.t]) ++ useBytes us = _
      rw [List.append_assoc]
    have eb : a ++ (useBytes (u :: us) ++ z) = a ++ (bytesOf 1 [u.s] ++ (bytesOf 4 [u.t] ++ (useBytes us ++ z))) := by rw [e]; simp only [List.append_assoc]
    have g1 := get_here a (bytesOf 4 [u.t] ++ (useBytes us ++ z)) 1 p u.s (by simp) hu.1 hp
    rw [← eb] at g1
    have g2 := get_here (a ++ bytesOf 1 [u.s]) (useBytes us ++ z) 4 (p + 1) u.t (by simp) hu.2 (by rw [List.length_append, bytesOf_length, hp]; simp)
    have eb2 : (a ++ bytesOf 1 [u.s]) ++ (bytesOf 4 [u.t] ++ (useBytes us ++ z)) = a ++ (useBytes (u :: us) ++ z) := by rw [eb, List.append_assoc]
    rw [eb2] at g2
    have ih := usesU_bytes us ((a ++ bytesOf 1 [u.s]) ++ bytesOf 4 [u.t]) z (p + 1 + 4) (fun q hq => h q (by simp [hq])) (by rw [List.length_append, List.length_append, bytesOf_length, bytesOf_length, hp]; simp)
    have eb3 : ((a ++ bytesOf 1 [u.s]) ++ bytesOf 4 [u.t]) ++ (useBytes us ++ z) = a ++ (useBytes (u :: us) ++ z) := by rw [← eb2, List.append_assoc]
    rw [eb3] at ih
    generalize a ++ (useBytes (u :: us) ++ z) = L at g1 g2 ih ⊢
    have g1' : Row.get ⟨L, p⟩ 1 = (u.s, true, ⟨L, p + 1⟩) := g1
    have g2' : Row.get ⟨L, p + 1⟩ 4 = (u.t, true, ⟨L, p + 1 + 4⟩) := g2
    rw [List.length_cons, usesU_cons]
    have r1 : rowU ⟨L, p⟩ 1 = ⟨L, p + 1 + 4⟩ := by
      show ((Row.get ⟨L, p⟩ 1).2.2.get 4).2.2 = _
      rw [g1', g2']
    have u0 : useU ⟨L, p⟩ 0 = u := by
      show (⟨(Row.get ⟨L, p⟩ 1).1, ((Row.get ⟨L, p⟩ 1).2.2.get 4).1⟩ : Us) = u
      rw [g1', g2']
    rw [r1, u0, ih]

/-- A region's bytes. -/
def Rg.nums (R : Rg) : List (Nat × Int) := [(4, R.g), (4, R.v), (1, R.m), (4, R.e), (4, R.q), (4, R.d), (1, R.s), (1, R.o), (4, R.l), (4, R.p), (4, R.k), (1, bitsOf R.bs), (1, bitsOf R.ov)]
def Rg.lead (R : Rg) : List UInt8 := (((((([75, 67] ++ bytesOf 4 [R.g, R.v]) ++ bytesOf 1 [R.m]) ++ bytesOf 4 [R.e, R.q, R.d]) ++ bytesOf 1 [R.s, R.o]) ++ bytesOf 4 [R.l, R.p, R.k])) ++ bytesOf 1 [bitsOf R.bs, bitsOf R.ov]
theorem Rg.lead_eq (R : Rg) : R.lead = [75, 67] ++ encs R.nums := by
  unfold Rg.lead Rg.nums encs
  rw [bytesOf_cons 4 (by omega) R.g [R.v], bytesOf_cons 4 (by omega) R.e [R.q, R.d], bytesOf_cons 4 (by omega) R.q [R.d], bytesOf_cons 1 (by omega) R.s [R.o], bytesOf_cons 4 (by omega) R.l [R.p, R.k], bytesOf_cons 4 (by omega) R.p [R.k], bytesOf_cons 1 (by omega) (bitsOf R.bs) [bitsOf R.ov]]
  simp only [List.flatMap_cons, List.flatMap_nil, List.append_nil, List.append_assoc, List.cons_append, List.nil_append]
theorem Rg.lead_len (R : Rg) : R.lead.length = 39 := by
  simp [Rg.lead, bytesOf_length]
def Rg.head (R : Rg) : List UInt8 := R.lead ++ useBytes R.us
theorem Rg.head_len (R : Rg) : R.head.length = 39 + 5 * R.us.length := by rw [Rg.head, List.length_append, R.lead_len, useBytes_len]
def Rg.body (D : Dv) (R : Rg) : List UInt8 := R.head ++ List.replicate (64 * D.r - 4 - R.head.length) 0
theorem Rg.body_len {D : Dv} {R : Rg} (h : D.ok) (hg : Good D R) : (R.body D).length = 64 * D.r - 4 := by
  have := h.bd
  have := hg.ul
  simp [Rg.body, Rg.head_len]
  omega
def Rg.bytes (D : Dv) (R : Rg) : List UInt8 := R.body D ++ sumOf (R.body D)
theorem Rg.bytes_len {D : Dv} {R : Rg} (h : D.ok) (hg : Good D R) : (R.bytes D).length = 64 * D.r := by
  have := h.bd
  rw [Rg.bytes, List.length_append, Rg.body_len h hg, sumOf_len]
  omega

/-- How one is read. -/
def wid : List Nat := [4, 4, 1, 4, 4, 4, 1, 1, 4, 4, 4, 1, 1]
def rgOf (D : Dv) (t : List Int × Row) : Rg :=
  ⟨t.1.getD 0 0, t.1.getD 1 0, t.1.getD 2 0, t.1.getD 3 0, t.1.getD 4 0, t.1.getD 5 0, t.1.getD 6 0, t.1.getD 7 0, t.1.getD 8 0, t.1.getD 9 0, t.1.getD 10 0, unbits D.y (t.1.getD 11 0), unbits D.y (t.1.getD 12 0), usesU t.2 D.n⟩
def readOf (D : Dv) (bs : List UInt8) : Rg := rgOf D (gets (r0 bs) wid)

theorem pow5 (n : Nat) (h : n ≤ 5) : (2 : Int) ^ n ≤ 2 ^ 5 := by
  have : n = 0 ∨ n = 1 ∨ n = 2 ∨ n = 3 ∨ n = 4 ∨ n = 5 := by omega
  rcases this with rfl | rfl | rfl | rfl | rfl | rfl <;> decide
theorem Good.bits1 {D : Dv} {R : Rg} (h : D.ok) (hg : Good D R) : fitsW (1 : Nat) (bitsOf R.bs) = true := by
  have h1 := bitsOf_bd R.bs hg.bs
  have h2 := h.bd
  have h3 : (2 : Int) ^ R.bs.length ≤ 2 ^ 5 := pow5 _ (by rw [hg.bl]; omega)
  exact fits1 _ h1.1 (by omega)
theorem Good.bits2 {D : Dv} {R : Rg} (h : D.ok) (hg : Good D R) : fitsW (1 : Nat) (bitsOf R.ov) = true := by
  have h1 := bitsOf_bd R.ov hg.ov
  have h2 := h.bd
  have h3 : (2 : Int) ^ R.ov.length ≤ 2 ^ 5 := pow5 _ (by rw [hg.ol]; omega)
  exact fits1 _ h1.1 (by omega)
theorem Good.fits {D : Dv} {R : Rg} (h : D.ok) (hg : Good D R) : ∀ p ∈ R.nums, fitP p := by
  have hb1 := hg.bits1 h
  have hb2 := hg.bits2 h
  have hb := h
  obtain ⟨h1, h2, h3, h4, h5, h6, h7, h8, h9, h10, h11, _, _, _, _, _, _⟩ := hg
  obtain ⟨_, hn, hz, _, _⟩ := hb
  intro p hp
  simp only [Rg.nums, List.mem_cons, List.not_mem_nil, or_false] at hp
  rcases hp with rfl | rfl | rfl | rfl | rfl | rfl | rfl | rfl | rfl | rfl | rfl | rfl | rfl
  · exact ⟨by simp, fits4 _ (by omega) (by omega)⟩
  · exact ⟨by simp, fits4 _ (by omega) (by omega)⟩
  · exact ⟨by simp, fits1 _ (by omega) (by omega)⟩
  · exact ⟨by simp, fits4 _ (by omega) (by omega)⟩
  · exact ⟨by simp, fits4 _ (by omega) (by omega)⟩
  · exact ⟨by simp, fits4 _ (by omega) (by omega)⟩
  · exact ⟨by simp, fits1 _ (by omega) (by omega)⟩
  · exact ⟨by simp, fits1 _ (by omega) (by omega)⟩
  · exact ⟨by simp, fits4 _ (by omega) (by omega)⟩
  · exact ⟨by simp, fits4 _ (by omega) (by omega)⟩
  · exact ⟨by simp, fits4 _ (by omega) (by omega)⟩
  · exact ⟨by simp, hb1⟩
  · exact ⟨by simp, hb2⟩
theorem Good.ufits {D : Dv} {R : Rg} (hg : Good D R) : ∀ u ∈ R.us, fitsW (1 : Nat) u.s = true ∧ fitsW (4 : Nat) u.t = true := by
  intro u hu
  obtain ⟨i, hi⟩ := List.getElem?_of_mem hu
  obtain ⟨h1, h2, _⟩ := hg.us i u hi
  exact ⟨fits1 _ (by omega) (by omega), fits4 _ (by omega) (by omega)⟩

theorem read_bytes {D : Dv} {R : Rg} (h : D.ok) (hg : Good D R) : readOf D (R.bytes D) = R := by
  have hbd := h.bd
  have hl := Rg.bytes_len h hg
  obtain ⟨z, hz⟩ : ∃ z, R.bytes D = [75, 67] ++ (encs R.nums ++ (useBytes R.us ++ z)) := ⟨List.replicate (64 * D.r - 4 - R.head.length) 0 ++ sumOf (R.body D), by
    rw [Rg.bytes]
    generalize sumOf (R.body D) = t
    rw [Rg.body]
    generalize List.replicate (64 * D.r - 4 - R.head.length) (0 : UInt8) = zs
    rw [Rg.head, R.lead_eq]
    simp only [List.append_assoc]⟩
  have e0 : r0 (R.bytes D) = ⟨R.bytes D, 2⟩ := take2 _ (by omega)
  have g := gets_encs R.nums [75, 67] (useBytes R.us ++ z) 2 (hg.fits h) rfl
  rw [← hz] at g
  have u := usesU_bytes R.us ([75, 67] ++ encs R.nums) z (2 + widths R.nums) hg.ufits (by rw [List.length_append, encs_len]; rfl)
  rw [List.append_assoc, ← hz, hg.ul] at u
  have hw : R.nums.map (·.1) = wid := rfl
  rw [hw] at g
  unfold readOf
  rw [e0, g]
  unfold rgOf
  rw [u]
  have b1 := unbits_bits R.bs hg.bs
  have b2 := unbits_bits R.ov hg.ov
  rw [hg.bl] at b1
  rw [hg.ol] at b2
  obtain ⟨g, v, m, e, q, d, s, o, l, p, k, bs, ov, us⟩ := R
  simp only [Rg.nums, List.map_cons, List.map_nil, List.getD_cons_zero, List.getD_cons_succ] at *
  rw [b1, b2]

/-- Encode's answer, Decode's. -/
noncomputable def encode (D : Dv) (R : Rg) : List UInt8 × Int := if R.may D = true then (R.bytes D, 0) else ([], 1)
noncomputable def decode (D : Dv) (bs : List UInt8) : Rg × Int := if (readOf D bs).may D = true ∧ (readOf D bs).bytes D = bs then (readOf D bs, 0) else (Rg.zero, 2)
theorem decode_bytes {D : Dv} {R : Rg} (h : D.ok) (hg : Good D R) : decode D (R.bytes D) = (R, 0) := by
  unfold decode
  rw [read_bytes h hg, if_pos ⟨(R.may_iff D).2 hg, rfl⟩]
theorem decode_or (D : Dv) (bs : List UInt8) : (∃ R : Rg, Good D R ∧ R.bytes D = bs ∧ decode D bs = (R, 0)) ∨ decode D bs = (Rg.zero, 2) := by
  by_cases h : (readOf D bs).may D = true ∧ (readOf D bs).bytes D = bs
  · exact .inl ⟨readOf D bs, (Rg.may_iff _ D).1 h.1, h.2, if_pos h⟩
  · exact .inr (if_neg h)
theorem decode_no (D : Dv) (bs : List UInt8) (h : ∀ R : Rg, Good D R → R.bytes D ≠ bs) : decode D bs = (Rg.zero, 2) := by
  rcases decode_or D bs with ⟨H, h1, h2, _⟩ | h3
  · exact absurd h2 (h H h1)
  · exact h3
theorem bytes_body {D : Dv} {R : Rg} (h : D.ok) (hg : Good D R) : (R.bytes D).take (64 * D.r - 4) = R.body D := List.take_left' (Rg.body_len h hg)
theorem bytes_sum {D : Dv} {R : Rg} (h : D.ok) (hg : Good D R) : (R.bytes D).drop (64 * D.r - 4) = sumOf (R.body D) := List.drop_left' (Rg.body_len h hg)
theorem bytes_start (D : Dv) (R : Rg) : (R.bytes D)[0]? = some 75 ∧ (R.bytes D)[1]? = some 67 := by
  simp only [Rg.bytes, Rg.body, Rg.head, Rg.lead, List.append_assoc, List.cons_append]
  exact ⟨rfl, rfl⟩

/-- Bits turned ahead of the sum: none, just if any is. -/
theorem decode_turned {D : Dv} {R : Rg} (h : D.ok) (hg : Good D R) (o : List UInt8) (first p : Nat) (any : Bool) (ho : TurnedAt (R.body D) o first p 32 any) (hf : first < 8 * (64 * D.r - 4)) (u : Rg) (e : Int) (hd : decode D (o ++ sumOf (R.body D)) = (u, e)) :
    (any = true ∧ e = 2) ∨ (any = false ∧ e = 0) := by
  have hlo : o.length = 64 * D.r - 4 := by rw [ho.len]; exact Rg.body_len h hg
  have hs := ho.sum (by rw [Rg.body_len h hg]; exact hf)
  rcases decode_or D (o ++ sumOf (R.body D)) with ⟨T, h1, h2, h3⟩ | h3
  · rw [h3, Prod.mk.injEq] at hd
    have e1 := congrArg (List.take (64 * D.r - 4)) h2
    have e2 := congrArg (List.drop (64 * D.r - 4)) h2
    rw [bytes_body h h1, List.take_left' hlo] at e1
    rw [bytes_sum h h1, List.drop_left' hlo, e1] at e2
    exact .inr ⟨hs.1 (sumOf_inj _ _ e2), hd.2.symm⟩
  · rw [h3, Prod.mk.injEq] at hd
    cases any with
    | true => exact .inl ⟨rfl, hd.2.symm⟩
    | false =>
      have hb : o = R.body D := ho.same rfl
      rw [hb] at h3
      have h4 := decode_bytes h hg
      unfold Rg.bytes at h4
      rw [h3, Prod.mk.injEq] at h4
      exact absurd h4.2 (by decide)
/-- The sum's last byte is another: none. -/
theorem decode_sum {D : Dv} {R : Rg} (h : D.ok) (hg : Good D R) (t : List UInt8) (ht : t ≠ sumOf (R.body D)) : decode D (R.body D ++ t) = (Rg.zero, 2) := by
  refine decode_no D _ fun T hT e => ht ?_
  have e1 := congrArg (List.take (64 * D.r - 4)) e
  have e2 := congrArg (List.drop (64 * D.r - 4)) e
  rw [bytes_body h hT, List.take_left' (Rg.body_len h hg)] at e1
  rw [bytes_sum h hT, List.drop_left' (Rg.body_len h hg), e1] at e2
  exact e2.symm

/-- Choose's answer. -/
noncomputable def choose (D : Dv) (a b : List UInt8) : Rg × Int × Int :=
  if (decode D b).1.g > (decode D a).1.g then ((decode D b).1, 1, 0) else if (decode D a).1.g > 0 then ((decode D a).1, 0, 0) else (Rg.zero, 0, 2)
end Go.Proofs.Ythacnlpdodlggaa.rg
