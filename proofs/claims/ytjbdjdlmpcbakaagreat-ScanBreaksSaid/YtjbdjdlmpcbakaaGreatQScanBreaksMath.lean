/- ScanBreaks: pure. -/
import Derived.Test.YtjbdjdlmpcbakaaGreatQScanLogMath
namespace Go.Proofs.YtjbdjdlmpcbakaaGreat.sc
open Go.RowKit Go.Proofs.YtjbdjdlmpcbakaaGreat.mem Go.Proofs.YtjbdjdlmpcbakaaGreat.base Go.Proofs.YtjbdjdlmpcbakaaGreat.disk
open Go.Proofs.YtjbdjdlmpcbakaaGreat.record (Rc)
/-- Where each of them stands, and where the next one would. -/
def offsOf (l : List (Ps × Rc)) (x : Ps) : List Int := l.map (fun y => y.1.o) ++ [x.o]
/-- A record and its two neighbours. -/
theorem Lg.pick {D : Dk} {a : Nat} {p : Ps} {l : List (Ps × Rc)} {x : Ps} {j : Nat} (h : Lg D a p l x j) (k : Nat) (hk : k < j) : ∃ qk R, l[k]? = some (qk, R) ∧ Chain D a 64 p (l.take k) qk ∧ (1 ≤ qk.o ∧ qk.o + lenOf R ≤ 64) ∧ R.ok ∧ StandsAt D (a + qk.o.toNat) R.bytes (lenOf R) ∧
    (offsOf l x)[k]? = some qk.o ∧ (offsOf l x)[k + 1]? = some (qk.o + lenOf R) := by
  have hkl : k < l.length := by rw [h.len]; exact hk
  obtain ⟨⟨qk, R⟩, hy⟩ : ∃ y, l[k]? = some y := ⟨_, List.getElem?_eq_getElem hkl⟩
  have hsp : l = l.take k ++ (qk, R) :: l.drop (k + 1) := by
    obtain ⟨h1, h2⟩ := List.getElem?_eq_some_iff.1 hy
    rw [← h2, List.getElem_cons_drop, List.take_append_drop]
  have hc := h.seg.chain
  rw [hsp] at hc
  obtain ⟨m, c1, c2⟩ := hc.cut
  obtain ⟨e, i1, i2, _, _, i5, i6⟩ := c2
  subst e
  refine ⟨qk, R, hy, c1, i1, i2, i5, ?_, ?_⟩
  · unfold offsOf
    rw [List.getElem?_append_left (by simpa using hkl), List.getElem?_map, hy]
    rfl
  · unfold offsOf
    by_cases hlast : k + 1 < l.length
    · rw [List.getElem?_append_left (by simpa using hlast), List.getElem?_map]
      have hd : l.drop (k + 1) = l[k + 1] :: l.drop (k + 2) := List.drop_eq_getElem_cons hlast
      rw [hd] at i6
      obtain ⟨y, hy2⟩ : ∃ y, l[k + 1] = y := ⟨_, rfl⟩
      rw [List.getElem?_eq_getElem hlast, hy2]
      rw [hy2] at i6
      obtain ⟨q2, R2⟩ := y
      obtain ⟨e2, _⟩ := i6
      subst e2
      rfl
    · have hd : l.drop (k + 1) = [] := List.drop_eq_nil_of_le (by omega)
      rw [hd] at i6
      have i6' : x = behind qk R R.sum := i6
      rw [List.getElem?_append_right (by simp; omega), List.length_map, show k + 1 - l.length = 0 by omega, i6']
      rfl
/-- With a bit of one of them turned just those ahead of it are told. -/
theorem Lg.broke {D : Dk} {a : Nat} {p : Ps} {l : List (Ps × Rc)} {x : Ps} {j : Nat} (h : Lg D a p l x j) {k : Nat} {qk : Ps} {R : Rc} (hc : Chain D a 64 p (l.take k) qk) (ho : 1 ≤ qk.o ∧ qk.o + lenOf R ≤ 64) (hR : R.ok) (hst : StandsAt D (a + qk.o.toNat) R.bytes (lenOf R))
    (bit : Nat) (hb : bit < 512 * lenOf R) (s : Nat) (hs : s = a + qk.o.toNat + bit / 512) (b : List UInt8) (hbb : b = disk.sec D.now s) (b' : List UInt8) (hb' : b' = b.set (bit / 8 % 64) (UInt8.ofNat ((b.getD (bit / 8 % 64) 0).toNat ^^^ 2 ^ (bit % 8)))) :
    (D.write (s : Int) b').1 = 0 ∧ Reads (D.write (s : Int) b').2 ∧ (D.write (s : Int) b').2.n = D.n ∧ (D.write (s : Int) b').2.acts = D.acts + 1 ∧ scanOf (D.write (s : Int) b').2 a 64 ⟨p.s, 0, 0, 0, 0⟩ true = (l.take k, qk, 0) := by
  have hroom := h.seg.room
  have hj : bit / 512 < lenOf R := by omega
  have hsn : s < D.n := by omega
  have hbl : b.length = 64 := by rw [hbb]; exact h.seg.reads.sec s hsn
  obtain ⟨e1, e2, e3, e4, e5⟩ := write_reads h.seg.reads s b' hsn (by rw [hb', List.length_set]; exact hbl)
  have hsb : b = disk.sec R.bytes (bit / 512) := by rw [hbb, hs]; exact hst (bit / 512) hj
  have hf := h.seg.first
  have hchain : Chain (D.write (s : Int) b').2 a 64 p (l.take k) qk := hc.same (by omega) (fun i h1 h2 => by rw [e5 i (by omega), if_neg (by omega)])
  have hstand : StandsAt (D.write (s : Int) b').2 (a + qk.o.toNat) (flip R.bytes bit) (lenOf R) := fun i hi => by
    rw [e5 _ (by omega), sec_flip]
    by_cases he : i = bit / 512
    · rw [if_pos (by omega), if_pos he, hb', hsb, he]
      congr 3
      rw [List.getD_eq_getElem?_getD, List.getD_eq_getElem?_getD, sec_get _ _ _ (by omega), show 64 * (bit / 512) + bit / 8 % 64 = bit / 8 by omega]
    · rw [if_neg (by omega), if_neg he]
      exact hst i hi
  have hfo := follow_flip e2 a 64 qk R bit (a + qk.o.toNat) (by omega) ho (by rw [e3]; exact hroom) hR hstand hb
  refine ⟨e1, e2, e3, e4, scan_head e2 (by rw [e3]; exact hroom) (by omega) ?_ h.seg.may hf ⟨p.s, 0, 0, 0, 0⟩ true rfl rfl (.inl rfl) hchain hfo⟩
  rw [e5 a (by omega), if_neg (by omega)]
  exact h.seg.head
end Go.Proofs.YtjbdjdlmpcbakaaGreat.sc
