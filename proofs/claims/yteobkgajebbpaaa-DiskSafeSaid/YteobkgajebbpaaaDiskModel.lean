/- Chapter 3's disk as a pure thing. -/
import Derived.Test.YteobkgajebbpaaaDiskMem
namespace Go.Proofs.Yteobkgajebbpaaa.disk
open Go.RowKit Go.Proofs.Yteobkgajebbpaaa.mem Go.Proofs.Yteobkgajebbpaaa.base

structure Dk where
  safe : List UInt8
  held : List (Nat × List UInt8)
  faults : List Bool
  fuse : Int
  acts : Nat
  off : Bool

def layH (s : List UInt8) (l : List (Nat × List UInt8)) : List UInt8 := l.foldl (fun s x => lay s (64 * x.1) x.2) s
def Dk.now (D : Dk) : List UInt8 := layH D.safe D.held
def Dk.n (D : Dk) : Nat := D.faults.length

structure Dk.ok (D : Dk) : Prop where
  n1 : 1 ≤ D.n
  n2 : D.n ≤ 4096
  safe : D.safe.length = 64 * D.n
  held : ∀ x ∈ D.held, x.1 < D.n ∧ x.2.length = 64
  few : D.held.length ≤ D.acts
  fuse : -1 ≤ D.fuse

theorem layH_length (n : Nat) : ∀ (l : List (Nat × List UInt8)) (s : List UInt8), s.length = 64 * n → (∀ x ∈ l, x.1 < n ∧ x.2.length = 64) → (layH s l).length = 64 * n
  | [], _, h, _ => h
  | x :: l, s, h, hl => by
    have hx := hl x (by simp)
    refine layH_length n l _ ?_ (fun y hy => hl y (by simp [hy]))
    rw [lay_length _ _ _ (by omega), h]
theorem Dk.ok.now {D : Dk} (h : D.ok) : D.now.length = 64 * D.n := layH_length _ _ _ h.safe h.held
theorem layH_snoc (s : List UInt8) (l : List (Nat × List UInt8)) (x : Nat × List UInt8) : layH s (l ++ [x]) = lay (layH s l) (64 * x.1) x.2 := by simp [layH]
theorem layH_take (s : List UInt8) (l : List (Nat × List UInt8)) (k : Nat) (hk : k < l.length) : layH s (l.take (k + 1)) = lay (layH s (l.take k)) (64 * l[k].1) l[k].2 := by
  rw [List.take_add_one, List.getElem?_eq_getElem hk]
  exact layH_snoc _ _ _

/-- What a Read of a sector finds among the held ones. -/
def lastOf (i : Nat) (c : List UInt8) (l : List (Nat × List UInt8)) : List UInt8 := l.foldl (fun c x => if x.1 = i then x.2 else c) c
theorem sec_layH (n i : Nat) : ∀ (l : List (Nat × List UInt8)) (s : List UInt8), s.length = 64 * n → (∀ x ∈ l, x.1 < n ∧ x.2.length = 64) → sec (layH s l) i = lastOf i (sec s i) l
  | [], _, _, _ => rfl
  | x :: l, s, h, hl => by
    have hx := hl x (by simp)
    have h1 : (lay s (64 * x.1) x.2).length = 64 * n := by rw [lay_length _ _ _ (by omega), h]
    have := sec_layH n i l (lay s (64 * x.1) x.2) h1 (fun y hy => hl y (by simp [hy]))
    show sec (layH (lay s (64 * x.1) x.2) l) i = lastOf i (if x.1 = i then x.2 else sec s i) l
    rw [this]
    congr 1
    split
    · rename_i e
      subst e
      rw [sec_lay_same s _ n _ h hx.1 (by omega), lay_all _ _ (by rw [sec_length s _ n h hx.1]; exact hx.2)]
    · rename_i e
      rw [sec_lay_other s _ _ n _ h hx.1 (by omega) e]

/-- One act: is there power for it? -/
def Dk.tick (D : Dk) : Bool := !D.off && !(D.fuse == 0)
def Dk.ticked (D : Dk) : Dk := if D.tick then { D with acts := D.acts + 1, fuse := if 0 < D.fuse then D.fuse - 1 else D.fuse } else { D with acts := D.acts + 1, off := true }
def Dk.has (D : Dk) (at_ : Int) : Bool := decide (0 ≤ at_ ∧ at_ < D.n)
def Dk.write (D : Dk) (at_ : Int) (b : List UInt8) : Int × Dk :=
  if D.has at_ && b.length == 64 then (if D.tick then (0, { D.ticked with held := D.held ++ [(at_.toNat, b)] }) else (3, D.ticked)) else (1, D)
def Dk.flush (D : Dk) : Int × Dk := if D.tick then (0, { D.ticked with safe := D.now, held := [] }) else (3, D.ticked)
def Dk.read (D : Dk) (at_ : Int) : Int × List UInt8 :=
  if !D.has at_ then (1, []) else if D.off then (3, []) else if D.faults.getD at_.toNat false then (4, []) else (0, sec D.now at_.toNat)
def Dk.fused (D : Dk) (n : Int) : Dk := { D with fuse := if n < 0 then -1 else n }
def Dk.faulted (D : Dk) (at_ : Int) (on : Bool) : Int × Dk := if D.has at_ then (0, { D with faults := D.faults.set at_.toNat on }) else (1, D)
def Dk.new (n : Nat) : Dk := ⟨List.replicate (64 * n) 0, [], List.replicate n false, -1, 0, false⟩

/-- What becomes of one held write in a crash. -/
def torn (s : List UInt8 × Bool) (x : Nat × List UInt8) (p : Nat) : List UInt8 × Bool :=
  if p % 3 = 1 then (lay s.1 (64 * x.1) x.2, s.2) else if p % 3 = 2 then (if s.2 then s.1 else lay s.1 (64 * x.1) (x.2.take (p / 3)), true) else s
def pickAt (picks : List Int) (i : Nat) : Nat := (picks.getD i 0 % 192).toNat
def crashK (D : Dk) (picks : List Int) : Nat → List UInt8 × Bool
  | 0 => (D.safe, false)
  | k + 1 => torn (crashK D picks k) (D.held.getD k (0, [])) (pickAt picks k)
def Dk.crash (D : Dk) (picks : List Int) : Dk := ⟨(crashK D picks D.held.length).1, [], D.faults, -1, 0, false⟩

section
variable {D : Dk}
theorem ticked_same : D.ticked.safe = D.safe ∧ D.ticked.held = D.held ∧ D.ticked.faults = D.faults ∧ D.ticked.acts = D.acts + 1 := by
  unfold Dk.ticked
  split <;> exact ⟨rfl, rfl, rfl, rfl⟩
theorem ticked_n : D.ticked.n = D.n := by unfold Dk.n; rw [ticked_same.2.2.1]
theorem Dk.ok.ticked (h : D.ok) : D.ticked.ok := by
  obtain ⟨h1, h2, h3, h4⟩ := @ticked_same D
  refine ⟨by rw [ticked_n]; exact h.n1, by rw [ticked_n]; exact h.n2, by rw [h1, ticked_n]; exact h.safe, by rw [h2, ticked_n]; exact h.held, by have := h.few; rw [h2, h4]; omega, ?_⟩
  have := h.fuse
  unfold Dk.ticked
  split
  · show -1 ≤ if 0 < D.fuse then D.fuse - 1 else D.fuse
    split <;> omega
  · exact this
theorem Dk.ok.wrote (h : D.ok) {at_ : Int} {b : List UInt8} (ha : D.has at_ = true) (hb : b.length = 64) : Dk.ok { D.ticked with held := D.held ++ [(at_.toNat, b)] } := by
  have ht := h.ticked
  obtain ⟨h1, h2, h3, h4⟩ := @ticked_same D
  have ha' : 0 ≤ at_ ∧ at_ < D.n := by simpa [Dk.has] using ha
  refine ⟨ht.n1, ht.n2, ht.safe, fun x hx => ?_, ?_, ht.fuse⟩
  · show x.1 < D.ticked.n ∧ _
    rw [ticked_n]
    rcases List.mem_append.1 hx with hx | hx
    · exact h.held x hx
    · simp at hx
      subst hx
      exact ⟨by show at_.toNat < _; omega, hb⟩
  · show (D.held ++ [(at_.toNat, b)]).length ≤ D.ticked.acts
    have := h.few
    rw [h4, List.length_append]
    simp
    omega
theorem Dk.ok.flushed (h : D.ok) : Dk.ok { D.ticked with safe := D.now, held := [] } := by
  have ht := h.ticked
  refine ⟨ht.n1, ht.n2, ?_, by simp, by simp, ht.fuse⟩
  show D.now.length = 64 * D.ticked.n
  rw [ticked_n]
  exact h.now
theorem Dk.ok.fused (h : D.ok) (n : Int) : (D.fused n).ok :=
  ⟨h.n1, h.n2, h.safe, h.held, h.few, by show -1 ≤ if n < 0 then -1 else n; split <;> omega⟩
theorem Dk.ok.faulted (h : D.ok) (i : Nat) (on : Bool) : Dk.ok { D with faults := D.faults.set i on } := by
  have e : (Dk.n { D with faults := D.faults.set i on }) = D.n := by simp [Dk.n]
  exact ⟨by rw [e]; exact h.n1, by rw [e]; exact h.n2, by rw [e]; exact h.safe, by rw [e]; exact h.held, h.few, h.fuse⟩
theorem Dk.new_ok (n : Nat) (h1 : 1 ≤ n) (h2 : n ≤ 4096) : (Dk.new n).ok :=
  ⟨by simpa [Dk.new, Dk.n] using h1, by simpa [Dk.new, Dk.n] using h2, by simp [Dk.new, Dk.n], by simp [Dk.new], by simp [Dk.new], by simp [Dk.new]⟩
theorem torn_length (n : Nat) (s : List UInt8 × Bool) (x : Nat × List UInt8) (p : Nat) (h : s.1.length = 64 * n) (hx : x.1 < n ∧ x.2.length = 64) : (torn s x p).1.length = 64 * n := by
  unfold torn
  split
  · rw [lay_length _ _ _ (by omega)]; exact h
  · split
    · show (if s.2 then s.1 else lay s.1 (64 * x.1) (x.2.take (p / 3))).length = _
      split
      · exact h
      · rw [lay_length _ _ _ (by rw [List.length_take]; omega)]; exact h
    · exact h
theorem crashK_length (h : D.ok) (picks : List Int) : ∀ k, k ≤ D.held.length → (crashK D picks k).1.length = 64 * D.n
  | 0, _ => h.safe
  | k + 1, hk => torn_length _ _ _ _ (crashK_length h picks k (by omega)) (by
    rw [List.getD_eq_getElem?_getD, List.getElem?_eq_getElem (by omega)]
    exact h.held _ (List.getElem_mem _))
theorem Dk.ok.crashed (h : D.ok) (picks : List Int) : (D.crash picks).ok :=
  ⟨h.n1, h.n2, crashK_length h picks _ (Nat.le_refl _), by simp [Dk.crash], by simp [Dk.crash], by simp [Dk.crash]⟩
theorem crash_now (picks : List Int) : (D.crash picks).now = (D.crash picks).safe := rfl
end

/-- Held writes as cells. -/
def heldCells (l : List (Nat × List UInt8)) : List Value := l.flatMap fun x => I x.1 :: x.2.map B
theorem heldCells_length (l : List (Nat × List UInt8)) (h : ∀ x ∈ l, x.2.length = 64) : (heldCells l).length = 65 * l.length := by
  induction l with
  | nil => rfl
  | cons x l ih =>
    have := ih (fun y hy => h y (by simp [hy]))
    have hx := h x (by simp)
    unfold heldCells at this ⊢
    rw [List.flatMap_cons, List.length_append, this]
    simp
    omega
theorem heldCells_snoc (l : List (Nat × List UInt8)) (x : Nat × List UInt8) : heldCells (l ++ [x]) = heldCells l ++ (I x.1 :: x.2.map B) := by simp [heldCells]
theorem heldCells_at (l : List (Nat × List UInt8)) (h : ∀ x ∈ l, x.2.length = 64) (k : Nat) (hk : k < l.length) : ((heldCells l).drop (65 * k)).take 65 = I l[k].1 :: l[k].2.map B := by
  induction l generalizing k with
  | nil => simp at hk
  | cons x l ih =>
    have hx := h x (by simp)
    have e : heldCells (x :: l) = (I x.1 :: x.2.map B) ++ heldCells l := by simp [heldCells]
    rw [e]
    have hl : (I x.1 :: x.2.map B).length = 65 := by simp; omega
    rcases k with _ | k
    · rw [Nat.mul_zero, List.drop_zero, ← hl, List.take_left]
      rfl
    · rw [show 65 * (k + 1) = (I x.1 :: x.2.map B).length + 65 * k by rw [hl]; omega, List.drop_append, List.drop_eq_nil_of_le (by omega), List.nil_append, Nat.add_sub_cancel_left]
      exact ih (fun y hy => h y (by simp [hy])) k (by simpa using hk)

/-- Values of one cell each. -/
theorem oneCell_write (a : Nat) (b : List UInt8) : ∀ v ∈ (I a :: b.map B), v.oneCell' = true := by
  intro v hv
  rcases List.mem_cons.1 hv with rfl | hv
  · rfl
  · exact oneCell_B b v hv
end Go.Proofs.Yteobkgajebbpaaa.disk
