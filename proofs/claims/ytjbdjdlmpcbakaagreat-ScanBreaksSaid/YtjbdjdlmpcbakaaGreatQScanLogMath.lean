/- A log of records that the laws lay: pure. -/
import Derived.Test.YtjbdjdlmpcbakaaGreatQScanLawCore
import Derived.Test.YtjbdjdlmpcbakaaGreatQScanToldCore
namespace Go.Proofs.YtjbdjdlmpcbakaaGreat.sc
open Go.RowKit Go.Proofs.YtjbdjdlmpcbakaaGreat.mem Go.Proofs.YtjbdjdlmpcbakaaGreat.base Go.Proofs.YtjbdjdlmpcbakaaGreat.disk
open Go.Proofs.YtjbdjdlmpcbakaaGreat.record (Rc)
structure Lg (D : Dk) (a : Nat) (p : Ps) (l : List (Ps × Rc)) (x : Ps) (j : Nat) : Prop where
  seg : Seg D a 64 p l x
  len : l.length = j
  s : x.s = p.s
  o : x.o ≤ 1 + 7 * j
  num : x.l = p.l + j
  m : x.m = p.m
  v : 0 ≤ x.v ∧ x.v ≤ 4294967295
theorem Lg.new {D : Dk} {a : Nat} {p : Ps} (h : Seg D a 64 p [] p) (hv : 0 ≤ p.v ∧ p.v ≤ 4294967295) : Lg D a p [] p 0 := ⟨h, rfl, rfl, by have := h.first; omega, by omega, rfl, hv⟩
theorem Lg.log {D : Dk} {a : Nat} {p : Ps} {l : List (Ps × Rc)} {x : Ps} {j : Nat} (h : Lg D a p l x j) (ks : List Int) (fill : Int) (h6 : ks.length ≤ 6) (hj : j ≤ 7) (hm : 1 ≤ p.m ∧ p.m ≤ 1000) (hl : 1 ≤ p.l ∧ p.l ≤ 1000) :
    ∃ R, (R.ok ∧ lenOf R ≤ 7) ∧ (logD D a 64 x [⟨ks, fill, 0, 0, 0⟩]).2 = behind x R R.sum ∧ Lg (logD D a 64 x [⟨ks, fill, 0, 0, 0⟩]).1 a p (l ++ [(x, R)]) (behind x R R.sum) (j + 1) ∧ (logD D a 64 x [⟨ks, fill, 0, 0, 0⟩]).1.n = D.n ∧ (logD D a 64 x [⟨ks, fill, 0, 0, 0⟩]).1.acts ≤ D.acts + 8 := by
  have h1 := h.m
  have h2 := h.num
  have h3 := h.o
  have h4 := h.v
  obtain ⟨R, hR, hok, hpl, hsg, hn, ha⟩ := h.seg.log ks fill h6 (by omega) (by omega) h4 (by omega)
  obtain ⟨k1, k2, k3⟩ := kplain x ks fill (by omega) (by omega) h4
  rw [← hR] at k1 k2 k3
  have hsum : R.sum ≤ 4294967295 := by first | exact crc.more_le _ _ | exact crcMath.more_le _ _
  refine ⟨R, hok, hpl, ⟨hsg, by rw [List.length_append, h.len]; rfl, h.s, ?_, ?_, ?_, ?_⟩, hn, ha⟩
  · show x.o + (lenOf R : Int) ≤ _
    have := hok.2
    omega
  · show x.l + 1 = _
    omega
  · show R.m = _
    omega
  · show 0 ≤ (R.sum : Int) ∧ (R.sum : Int) ≤ 4294967295
    omega
theorem Lg.logOk {D : Dk} {a : Nat} {p : Ps} {l : List (Ps × Rc)} {x : Ps} {j : Nat} (h : Lg D a p l x j) (hj : j ≤ 8) (hm : 1 ≤ p.m ∧ p.m ≤ 1000) (hl : 1 ≤ p.l ∧ p.l ≤ 1000) : LogOk x 0 := by
  have h1 := h.m
  have h2 := h.num
  have h3 := h.o
  have h4 := h.v
  have h5 := h.seg.le
  exact ⟨by omega, by omega, by omega, h4⟩
/-- .. from where it was stopped. -/
theorem Lg.rest {D : Dk} {a : Nat} {p : Ps} {l : List (Ps × Rc)} {x : Ps} {j : Nat} (h : Lg D a p l x j) {l1 l2 : List (Ps × Rc)} {m : Ps} (hc : Chain D a 64 p l1 m) (hc2 : Chain D a 64 m l2 x) : scanOf D a 64 m false = (l2, x, 0) := by
  have hle := hc.le
  have hf := h.seg.first
  exact hc2.scan h.seg.reads h.seg.room (by omega) h.seg.follow (by omega)
theorem Chain.end_eq {D : Dk} {a : Nat} {z : Int} : ∀ {l : List (Ps × Rc)} {p q q' : Ps}, Chain D a z p l q → Chain D a z p l q' → q = q'
  | [], _, _, _, h, h' => by rw [show _ = _ from h, show _ = _ from h']
  | (_, _) :: _, _, _, _, ⟨_, _, _, _, _, _, h⟩, ⟨_, _, _, _, _, _, h'⟩ => h.end_eq h'
theorem Chain.seg {D : Dk} {a : Nat} {z : Int} : ∀ {l : List (Ps × Rc)} {p q : Ps}, Chain D a z p l q → q.s = p.s
  | [], _, _, h => by rw [show _ = _ from h]
  | (_, _) :: _, _, _, ⟨_, _, _, _, _, _, h⟩ => h.seg
end Go.Proofs.YtjbdjdlmpcbakaaGreat.sc
