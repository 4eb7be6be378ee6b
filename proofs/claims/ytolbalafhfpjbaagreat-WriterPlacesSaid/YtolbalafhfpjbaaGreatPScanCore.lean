import Derived.Test.YtolbalafhfpjbaaGreatPDiskCore
import Derived.Test.YtolbalafhfpjbaaGreatPRecordCore
import Derived.Test.YtolbalafhfpjbaaGreatPHeadCore
namespace Go.Proofs.YtolbalafhfpjbaaGreat.sc
open Go.RowKit mem base disk
open record (Rc)
structure Ps where
 (s o l v m : Int)
deriving DecidableEq
def Ps.cells (p : Ps) : Array Value := #[.int .i64 p.s, .int .i64 p.o, .int .i64 p.l, .int .i64 p.v, .int .i64 p.m]
def Ps.val (p : Ps) : Value := .agg #[.int .i64 p.s, .int .i64 p.o, .int .i64 p.l, .int .i64 p.v, .int .i64 p.m]
def Ps.zero : Ps := ⟨0, 0, 0, 0, 0⟩
def lenOf (R : Rc) : Nat := 1 + R.bks.length
def hasNext (R : Rc) : Bool := R.its.any fun i => decide (i.k = 7)
def behind (p : Ps) (R : Rc) (sum : Int) : Ps := ⟨p.s, p.o + lenOf R, p.l + 1, sum, R.m⟩
def gat (D : Dk) (a : Int) : Nat → List UInt8 × Int
 | 0 => ([], 0)
 | k + 1 => if (gat D a k).2 ≠ 0 then gat D a k else ((gat D a k).1 ++ (D.read (a + k)).2, (D.read (a + k)).1)
def fits (R : Rc) (p : Ps) : Bool := decide (R.l = p.l) && (decide (R.p = p.v) && decide (p.m ≤ R.m))
def follow (D : Dk) (a size : Int) (p : Ps) : Option (Rc × Int) × Int :=
 if p.o < 1 ∨ size ≤ p.o then (none, 0)
 else if (D.read (a + p.o)).1 ≠ 0 then (none, (D.read (a + p.o)).1)
 else if record.sizeOf (D.read (a + p.o)).2 = 0 ∨ size < p.o + record.sizeOf (D.read (a + p.o)).2 then (none, 0)
 else if (gat D (a + p.o) (record.sizeOf (D.read (a + p.o)).2)).2 ≠ 0 then (none, (gat D (a + p.o) (record.sizeOf (D.read (a + p.o)).2)).2)
 else if (record.decode (gat D (a + p.o) (record.sizeOf (D.read (a + p.o)).2)).1).2.2 = 0 ∧ fits (record.decode (gat D (a + p.o) (record.sizeOf (D.read (a + p.o)).2)).1).1 p = true
  then (some ((record.decode (gat D (a + p.o) (record.sizeOf (D.read (a + p.o)).2)).1).1, (record.decode (gat D (a + p.o) (record.sizeOf (D.read (a + p.o)).2)).1).2.1), 0)
 else (none, 0)
structure Seal (p : Prop) : Prop where
 out : p
theorem sealed {p : Prop} (h : p) : Seal p := ⟨h⟩
def start (D : Dk) (a size : Int) (p : Ps) (headed : Bool) : Option Ps × Int :=
 if p.o ≠ 0 then (some p, 0)
 else if size ≤ 0 then (none, 0)
 else if (hd.decode (D.read a).2).2 = 0 ∧ (headed = true ∨ hd.fits (D.read a).2 p.s p.l p.v p.m = true) then (some ⟨p.s, 1, (hd.decode (D.read a).2).1.l, (hd.decode (D.read a).2).1.v, (hd.decode (D.read a).2).1.m⟩, (D.read a).1)
 else (none, (D.read a).1)

end Go.Proofs.YtolbalafhfpjbaaGreat.sc
namespace Go.Proofs.YtolbalafhfpjbaaGreat.sc
open Go.RowKit mem base disk
open record (Rc)
def putk (D : Dk) (at_ : Int) (bs : List UInt8) : Nat → Dk
 | 0 => D
 | k + 1 => ((putk D at_ bs k).write (at_ + k) (sec bs k)).2
structure Live (D : Dk) : Prop where
 off : D.off = false
 fuse : D.fuse = -1
theorem Live.tick {D : Dk} (h : Live D) : D.tick = true := by simp [Dk.tick, h.off, h.fuse]
theorem Live.ticked {D : Dk} (h : Live D) : D.ticked = { D with acts := D.acts + 1 } := by
 unfold Dk.ticked
 rw [if_pos h.tick, h.fuse]
 cases D
 simp_all
theorem Live.write {D : Dk} (h : Live D) (x : Int) (b : List UInt8) (hx : D.has x = true) (hb : b.length = 64) : D.write x b = (0, { D with acts := D.acts + 1, held := D.held ++ [(x.toNat, b)] }) := by
 unfold Dk.write
 rw [hx, hb, h.tick, h.ticked]
 rfl
theorem Live.read {D : Dk} (h : Live D) (x : Int) (hx : D.has x = true) (hf : D.faults.getD x.toNat false = false) : D.read x = (0, sec D.now x.toNat) := by
 unfold Dk.read
 rw [hx, h.off, hf]
 rfl
theorem putk_live {D : Dk} (h : Live D) (hD : D.ok) (a : Nat) (bs : List UInt8) (m : Nat) (ha : a + m ≤ D.n) (hl : bs.length = 64 * m) : ∀ k, k ≤ m →
  Live (putk D a bs k) ∧ (putk D a bs k).ok ∧ (putk D a bs k).faults = D.faults ∧ (putk D a bs k).safe = D.safe ∧ (putk D a bs k).acts = D.acts + k ∧ (putk D a bs k).held.length = D.held.length + k ∧
  (putk D a bs k).held = D.held ++ (List.range k).map (fun i => (a + i, sec bs i))
 | 0, _ => ⟨h, hD, rfl, rfl, rfl, rfl, by simp [putk]⟩
 | k + 1, hk => by
  obtain ⟨h1, h2, h3, h4, h5, h6, h7⟩ := putk_live h hD a bs m ha hl k (by omega)
  have hn : (putk D a bs k).n = D.n := by unfold Dk.n; rw [h3]
  have hx : (putk D a bs k).has ((a : Int) + k) = true := by unfold Dk.has; rw [hn]; exact decide_eq_true ⟨by omega, by omega⟩
  have hs : (sec bs k).length = 64 := sec_length bs k m hl (by omega)
  have hw := h1.write ((a : Int) + k) (sec bs k) hx hs
  have e : putk D a bs (k + 1) = { putk D a bs k with acts := (putk D a bs k).acts + 1, held := (putk D a bs k).held ++ [(((a : Int) + k).toNat, sec bs k)] } := by
   show ((putk D a bs k).write _ _).2 = _
   rw [hw]
  have ht : ((a : Int) + k).toNat = a + k := by omega
  rw [ht] at e
  have hok : (putk D a bs (k + 1)).ok := by
   have := h2.wrote hx hs
   rw [h1.ticked, ht] at this
   rw [e]
   exact this
  refine ⟨by rw [e]; exact ⟨h1.off, h1.fuse⟩, hok, by rw [e]; exact h3, by rw [e]; exact h4, by rw [e]; show _ + 1 = _; rw [h5]; omega, by rw [e]; show ((putk D a bs k).held ++ [(a + k, sec bs k)]).length = _; rw [List.length_append, h6]; rfl, ?_⟩
  rw [e]
  show _ ++ _ = _
  rw [h7, List.range_succ, List.map_append, List.append_assoc]
  rfl
end Go.Proofs.YtolbalafhfpjbaaGreat.sc
namespace Go.Proofs.YtolbalafhfpjbaaGreat.sc
open Go.RowKit mem base disk
open record (Rc)
structure Reads (D : Dk) : Prop where
 ok : D.ok
 live : Live D
 whole : ∀ i, i < D.n → D.faults.getD i false = false
theorem Reads.read {D : Dk} (h : Reads D) (s : Nat) (hs : s < D.n) : D.read (s : Int) = (0, sec D.now s) := by
 have := h.live.read (s : Int) (by unfold Dk.has; exact decide_eq_true ⟨by omega, by omega⟩) (by rw [Int.toNat_natCast]; exact h.whole s hs)
 rw [this, Int.toNat_natCast]
theorem Reads.sec {D : Dk} (h : Reads D) (s : Nat) (hs : s < D.n) : (sec D.now s).length = 64 := sec_length _ _ _ h.ok.now hs
theorem Reads.new (n : Nat) (h1 : 1 ≤ n) (h2 : n ≤ 4096) : Reads (Dk.new n) := ⟨Dk.new_ok n h1 h2, ⟨rfl, rfl⟩, fun i hi => by
 show (List.replicate n false).getD i false = false
 rw [List.getD_eq_getElem?_getD, List.getElem?_replicate]
 split <;> rfl⟩
def StandsAt (D : Dk) (s : Nat) (bs : List UInt8) (m : Nat) : Prop := ∀ i, i < m → disk.sec D.now (s + i) = disk.sec bs i
def Chain (D : Dk) (a : Nat) (z : Int) : Ps → List (Ps × Rc) → Ps → Prop
 | p, [], q => q = p
 | p, (p', R) :: l, q => p' = p ∧ (1 ≤ p.o ∧ p.o + lenOf R ≤ z) ∧ R.ok ∧ fits R p = true ∧ hasNext R = false ∧ StandsAt D (a + p.o.toNat) R.bytes (lenOf R) ∧ Chain D a z (behind p R (R.sum : Int)) l q

section
variable {D D' : Dk} {a : Nat} {z : Int}
theorem behind_o (p : Ps) (R : Rc) (s : Int) : (behind p R s).o = p.o + lenOf R := rfl
theorem Chain.le : ∀ {l : List (Ps × Rc)} {p q : Ps}, Chain D a z p l q → p.o ≤ q.o ∧ (p.o ≤ z → q.o ≤ z) ∧ (l.length : Int) ≤ q.o - p.o
 | [], p, q, h => by
  have h' : q = p := h
  subst h'
  exact ⟨by omega, fun h => h, by simp⟩
 | (_, R) :: l, p, q, ⟨_, h1, _, _, _, _, h2⟩ => by
  obtain ⟨i1, i2, i3⟩ := h2.le
  rw [behind_o] at i1 i2 i3
  unfold lenOf at i1 i2 i3 h1
  rw [List.length_cons]
  exact ⟨by omega, fun _ => i2 h1.2, by omega⟩
theorem Chain.same : ∀ {l : List (Ps × Rc)} {p q : Ps}, Chain D a z p l q → 1 ≤ p.o → (∀ i, a + p.o.toNat ≤ i → i < a + q.o.toNat → disk.sec D'.now i = disk.sec D.now i) → Chain D' a z p l q
 | [], p, q, h, _, _ => h
 | (_, R) :: l, p, q, ⟨e, i1, i2, i3, i4, i5, i6⟩, hp, hs => by
  obtain ⟨l1, _, _⟩ := i6.le
  rw [behind_o] at l1
  refine ⟨e, i1, i2, i3, i4, fun i hi => ?_, i6.same (by rw [behind_o]; omega) (fun i h1 h2 => hs i (by rw [behind_o] at h1; omega) h2)⟩
  rw [hs _ (by omega) (by omega)]
  exact i5 i hi
theorem Chain.cut : ∀ {l k : List (Ps × Rc)} {p q : Ps}, Chain D a z p (l ++ k) q → ∃ m, Chain D a z p l m ∧ Chain D a z m k q
 | [], k, p, q, h => ⟨p, rfl, h⟩
 | (_, R) :: l, k, p, q, ⟨e, i1, i2, i3, i4, i5, i6⟩ => by
  obtain ⟨m, h1, h2⟩ := Chain.cut i6
  exact ⟨m, ⟨e, i1, i2, i3, i4, i5, h1⟩, h2⟩
end
theorem write_reads {D : Dk} (h : Reads D) (s : Nat) (b : List UInt8) (hs : s < D.n) (hl : b.length = 64) :
  (D.write (s : Int) b).1 = 0 ∧ Reads (D.write (s : Int) b).2 ∧ (D.write (s : Int) b).2.n = D.n ∧ (D.write (s : Int) b).2.acts = D.acts + 1 ∧ (∀ i, i < D.n → disk.sec (D.write (s : Int) b).2.now i = if i = s then b else disk.sec D.now i) := by
 have hx : D.has (s : Int) = true := by unfold Dk.has; exact decide_eq_true ⟨by omega, by omega⟩
 have e := h.live.write (s : Int) b hx hl
 rw [Int.toNat_natCast] at e
 have hok := h.ok.wrote hx hl
 rw [h.live.ticked, Int.toNat_natCast] at hok
 rw [e]
 refine ⟨rfl, ⟨hok, ⟨h.live.off, h.live.fuse⟩, h.whole⟩, rfl, rfl, fun i hi => ?_⟩
 show disk.sec (layH D.safe (D.held ++ [(s, b)])) i = _
 rw [layH_snoc]
 show disk.sec (lay D.now (64 * s) b) i = _
 by_cases hi2 : i = s
 ·subst hi2
  rw [if_pos rfl, sec_lay_same _ _ D.n _ h.ok.now hi (by omega), lay_all _ _ (by rw [h.sec i hi]; exact hl)]
 ·rw [if_neg hi2, sec_lay_other _ _ _ D.n _ h.ok.now hs (by omega) (fun h => hi2 h.symm)]
end Go.Proofs.YtolbalafhfpjbaaGreat.sc
namespace Go.Proofs.YtolbalafhfpjbaaGreat.sc
open Go.RowKit mem base disk crcMath crc
open record (Rc)
end Go.Proofs.YtolbalafhfpjbaaGreat.sc
