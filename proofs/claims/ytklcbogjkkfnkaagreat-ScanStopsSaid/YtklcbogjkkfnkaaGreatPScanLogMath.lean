/- A log of records that the laws lay: pure. -/
import Derived.Test.YtklcbogjkkfnkaaGreatPScanLawCore
import Derived.Test.YtklcbogjkkfnkaaGreatPScanToldCore
namespace Go.Proofs.YtklcbogjkkfnkaaGreat.sc
open Go.RowKit Go.Proofs.YtklcbogjkkfnkaaGreat.mem Go.Proofs.YtklcbogjkkfnkaaGreat.base Go.Proofs.YtklcbogjkkfnkaaGreat.disk
open Go.Proofs.YtklcbogjkkfnkaaGreat.record (Rc)
structure Lg (D : Dk) (a : Nat) (p : Ps) (l : List (Ps × Rc)) (x : Ps) (j : Nat) : Prop where
  seg : Seg D a 64 p l x
  len : l.length = j
  s : x.s = p.s
  o : x.o ≤ 1 + 7 * j
  num : x.l = p.l + j
  m : x.m = p.m
  v : 0 ≤ x.v ∧ x.v ≤ 4294967295
theorem Lg.new {D : Dk} {a : Nat} {p : Ps} (h : Seg D a 64 p [] p) (hv : 0 ≤ p.v ∧ p.v ≤ 4294967295) : Lg D a p [] p 0 := ⟨h, rfl, rfl, by have := h.first; omega, by omega, rfl, hv⟩
theorem Lg.log {D : Dk} {a : Nat} {p : Ps} {l : List (Ps × Rc)} {x : Ps} {j : Nat} (h : Lg D a p l x j) (ks : List Int) (fill : Int) (h6 : ks.length ≤ 6) (hj : j ≤ 7) (hm : 1 ≤ p.m ∧ p.m ≤ 1000) (hl : 1 ≤ p.l ∧ p.l ≤ 1000) :
    ∃ R, (R.ok ∧ lenOf R ≤ 7) ∧ (logD D a 64 x [⟨ks, fill, 0, 0, 0⟩]).2 = behind x R R.sum ∧ Lg (logD D a 64 x [⟨ks, fill, 0, 0, 0⟩]).1 a p (l ++ [(x, R)]) (behind x R R.sum) (j + 1) ∧ (logD D a 64 x [⟨ks, fill, 0, 0, 0⟩]).1.n = D.n ∧ (logD D a 64 x [⟨ks, fill, 0, 0, 0⟩]).1.acts ≤ D.acts + 8 := by
  have h1 := h.m
  have h2 := h.num
  have h3 := h.o
  have h4 := h.v
  obtain ⟨R, hR, hok, hpl, hsg, hn, ha⟩ := h.seg.log ks fill h6 (by omega) (by omega) h4 (by omega)
  obtain ⟨k1, k2, k3⟩ := kplain x ks fill (by omega) (by omega) h4
  rw [← hR] at k1 k2 k3
  have hsum : R.sum ≤ 4294967295 := by first | exact crc.more_le _ _ | exact crcMath.more_le _ _
  refine ⟨R, hok, hpl, ⟨hsg, by rw [List.length_append, h.len]; rfl, h.s, ?_, ?_, ?_, ?_⟩, hn, ha⟩
  · show x.o + (lenOf R : Int) ≤ _
    have := hok.2
    omega
  · show x.l + 1 = _
    omega
  · show R.m = _
    omega
  · show 0 ≤ (R.sum : Int) ∧ (R.sum : Int) ≤ 4294967295
    omega
theorem Lg.logOk {D : Dk} {a : Nat} {p : Ps} {l : List (Ps × Rc)} {x : Ps} {j : Nat} (h : Lg D a p l x j) (hj : j ≤ 8) (hm : 1 ≤ p.m ∧ p.m ≤ 1000) (hl : 1 ≤ p.l ∧ p.l ≤ 1000) : LogOk x 0 := by
  have h1 := h.m
  have h2 := h.num
  have h3 := h.o
  have h4 := h.v
  have h5 := h.seg.le
  exact ⟨by omega, by omega, by omega, h4⟩
/-- .. from where it was stopped. -/
theorem Lg.rest {D : Dk} {a : Nat} {p : Ps} {l : List (Ps × Rc)} {x : Ps} {j : Nat} (h : Lg D a p l x j) {l1 l2 : List (Ps × Rc)} {m : Ps} (hc : Chain D a 64 p l1 m) (hc2 : Chain D a 64 m l2 x) : scanOf D a 64 m false = (l2, x, 0) := by
  have hle := hc.le
  have hf := h.seg.first
  exact hc2.scan h.seg.reads h.seg.room (by omega) h.seg.follow (by omega)
theorem Chain.end_eq {D : Dk} {a : Nat} {z : Int} : ∀ {l : List (Ps × Rc)} {p q q' : Ps}, Chain D a z p l q → Chain D a z p l q' → q = q'
  | [], _, _, _, h, h' => by rw [show _ = _ from h, show _ = _ from h']
  | (_, _) :: _, _, _, _, ⟨_, _, _, _, _, _, h⟩, ⟨_, _, _, _, _, _, h'⟩ => h.end_eq h'
theorem Chain.seg {D : Dk} {a : Nat} {z : Int} : ∀ {l : List (Ps × Rc)} {p q : Ps}, Chain D a z p l q → q.s = p.s
  | [], _, _, h => by rw [show _ = _ from h]
  | (_, _) :: _, _, _, ⟨_, _, _, _, _, _, h⟩ => h.seg
theorem recs_fuel (D : Dk) (a z : Int) : ∀ (f g : Nat) (p : Ps), (p.o < 1 ∨ z ≤ p.o + f) → (p.o < 1 ∨ z ≤ p.o + g) → recs D a z f p = recs D a z g p
  | f, g, p, hf, hg => by
    rcases h : follow D a z p with ⟨o, e⟩
    cases o with
    | none => rw [recs_none h f hf, recs_none h g hg]
    | some y =>
      obtain ⟨R, s⟩ := y
      by_cases hn : hasNext R = true
      · rw [recs_last h f hf hn, recs_last h g hg hn]
      · rw [Bool.not_eq_true] at hn
        obtain ⟨f', rfl, e1, e2, _⟩ := recs_more h f hf hn
        obtain ⟨g', rfl, e3, e4, _⟩ := recs_more h g hg hn
        rw [e1, e3, recs_fuel D a z f' g' _ e2 e4]
theorem recs_head (D : Dk) (a z : Int) (f : Nat) (p : Ps) : ((recs D a z f p).1 = [] ∧ (recs D a z f p).2.1 = p) ∨ ∃ R t, (recs D a z f p).1 = (p, R) :: t := by
  cases f with
  | zero => exact .inl ⟨rfl, rfl⟩
  | succ f =>
    unfold recs
    split
    · exact .inl ⟨rfl, rfl⟩
    · split
      · exact .inr ⟨_, _, rfl⟩
      · exact .inr ⟨_, _, rfl⟩
/-- Where it was stopped it goes on. -/
theorem Lg.stop {D : Dk} {a : Nat} {p : Ps} {l : List (Ps × Rc)} {x : Ps} {j : Nat} (h : Lg D a p l x j) {pre : List (Ps × Rc)} {pk : Ps} {ov : Bool} (ha : After D a 64 l x 0 pre pk 0 ov) : pk.s = p.s ∧ scanOf D a 64 pk false = (l.drop pre.length, x, 0) := by
  have hle := h.seg.le
  cases ha with
  | on f ho hf hl he =>
    refine ⟨?_, ?_⟩
    · rcases recs_head D a 64 f pk with ⟨_, h2⟩ | ⟨R, t, h1⟩
      · rw [he] at h2
        rw [← h2]
        exact h.s
      · rw [h1] at hl
        have hc := h.seg.chain
        rw [hl] at hc
        obtain ⟨m, c1, c2⟩ := hc.cut
        obtain ⟨e, _⟩ := c2
        rw [e]
        exact c1.seg
    · have e1 : recs D a 64 64 pk = recs D a 64 f pk := by
        by_cases h1 : pk.o < 1
        · exact recs_fuel D a 64 64 f pk (.inl h1) (.inl h1)
        · exact recs_fuel D a 64 64 f pk (.inr (by omega)) hf
      unfold scanOf start
      rw [if_pos ho]
      dsimp only
      rw [show (64 : Int).toNat = 64 from rfl, e1]
      conv => rhs; rw [hl]
      rw [List.drop_left, ← he]
  | over hl hE =>
    subst hl hE
    refine ⟨h.s, ?_⟩
    have hc : Chain D a 64 x [] x := rfl
    rw [hc.scan h.seg.reads h.seg.room (by omega) h.seg.follow hle.1, List.drop_length]
end Go.Proofs.YtklcbogjkkfnkaaGreat.sc
