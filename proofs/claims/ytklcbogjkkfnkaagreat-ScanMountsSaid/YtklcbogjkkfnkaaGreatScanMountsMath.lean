/- ScanMounts: pure. -/
import Derived.Test.YtklcbogjkkfnkaaGreatScanLawCore
namespace Go.Proofs.YtklcbogjkkfnkaaGreat.sc
open Go.RowKit Go.Proofs.YtklcbogjkkfnkaaGreat.mem Go.Proofs.YtklcbogjkkfnkaaGreat.base Go.Proofs.YtklcbogjkkfnkaaGreat.disk
open Go.Proofs.YtklcbogjkkfnkaaGreat.record (Rc)

/-- Records one behind the other, then one that does not follow. -/
structure Brk (D : Dk) (a : Nat) (z : Int) (p : Ps) (l : List (Ps × Rc)) (E : Ps) : Prop where
  reads : Reads D
  room : (a : Int) + z ≤ D.n
  chain : Chain D a z p l E
  first : p.o = 1
  head : disk.sec D.now a = (headOf p).bytes
  may : (headOf p).may = true
  stop : ∃ R, R.ok ∧ lenOf R = 1 ∧ fits R E = false ∧ StandsAt D (a + E.o.toNat) R.bytes 1 ∧ E.o + 1 ≤ z
section
variable {D : Dk} {a : Nat} {z : Int} {p E : Ps} {l : List (Ps × Rc)}
theorem Brk.le (h : Brk D a z p l E) : 1 ≤ E.o := by
  have := h.chain.le
  have := h.first
  omega
theorem Brk.follow (h : Brk D a z p l E) : sc.follow D a z E = (none, 0) := by
  obtain ⟨R, h1, h2, h3, h4, h5⟩ := h.stop
  have hl := h.le
  have := follow_stands h.reads a z E R (a + E.o.toNat) (by omega) (by omega) (by have := h.room; omega) h1 (by rw [h2]; exact h4)
  rw [this, h3]
  rfl
theorem Brk.told (h : Brk D a z p l E) (p0 : Ps) (hb : Bool) (h0 : p0.o = 0) (hs : p0.s = p.s) (hf : hb = true ∨ hd.fits (headOf p).bytes p0.s p0.l p0.v p0.m = true) : scanOf D a z p0 hb = (l, E, 0) := by
  obtain ⟨R, _, _, _, _, h5⟩ := h.stop
  exact scan_head h.reads h.room (by have := h.le; omega) h.head h.may h.first p0 hb h0 hs hf h.chain h.follow
/-- .. what is laid behind it is nothing to it. -/
theorem Brk.put (h : Brk D a z p l E) (s : Nat) (bs : List UInt8) (m : Nat) (hs : (a : Int) + E.o + 1 ≤ s) (hm : s + m ≤ D.n) (hl : bs.length = 64 * m) : Brk (putD D (s : Int) bs) a z p l E := by
  have hle := h.le
  have hf := h.first
  obtain ⟨e1, e2, e3, e4, e5⟩ := put_reads h.reads s bs m hm hl
  obtain ⟨R, h1, h2, h3, h4, h5⟩ := h.stop
  refine ⟨e1, by rw [e2]; exact h.room, h.chain.same (by omega) (fun i hi1 hi2 => e5 i (by have := h.room; omega) (.inl (by omega))), hf, ?_, h.may, R, h1, h2, h3, fun i hi => ?_, h5⟩
  · rw [e5 a (by have := h.room; omega) (.inl (by omega))]
    exact h.head
  · rw [e5 _ (by have := h.room; omega) (.inl (by omega))]
    exact h4 i hi
end
/-- A record of one Mark. -/
def markR (k : Int) (q : Ps) (v : Int) : Rc := ⟨k, q.l, q.v, [⟨3, 0, 0, v⟩], []⟩
theorem markR_ok (k : Int) (q : Ps) (v : Int) (hk : 1 ≤ k ∧ k ≤ 2147483647) (hl : 1 ≤ q.l ∧ q.l ≤ 2147483647) (hv : 0 ≤ q.v ∧ q.v ≤ 4294967295) (h : 1 ≤ v ∧ v ≤ 2147483647) : (markR k q v).ok := by
  have hm : item.It.may ⟨3, 0, 0, v⟩ = true := (item.may_iff4 _ _ _ _).2 (by omega)
  refine ⟨hk, hl, hv, ⟨by simp [markR], by simp [markR]⟩, ?_, ?_, by simp [markR, record.all64]⟩
  · intro i hi
    simp only [markR, List.mem_cons, List.not_mem_nil, or_false] at hi
    rw [hi]
    exact hm
  · simp [markR, record.count, item.It.loaded]

/-- Where the law stands. -/
structure Mt (D : Dk) (a : Nat) (p : Ps) (l : List (Ps × Rc)) (E q : Ps) (dn : Bool) (j : Nat) : Prop where
  s : q.s = p.s
  o : q.o = 1 + j
  num : q.l = 1 + j
  v : 0 ≤ q.v ∧ q.v ≤ 4294967295
  m : 1 ≤ q.m ∧ q.m ≤ 12
  e : E.o = 1 + l.length
  reads : Reads D
  up : dn = false → Seg D a 40 p l q ∧ E = q
  down : dn = true → Brk D a 40 p l E ∧ E.o + 1 ≤ q.o
theorem Mt.step {D : Dk} {a : Nat} {p : Ps} {l : List (Ps × Rc)} {E q : Ps} {dn : Bool} {j : Nat} (h : Mt D a p l E q dn j) (k : Int) (hk : 1 ≤ k ∧ k ≤ 12) (hj : j ≤ 20) (hn : (a : Int) + 40 ≤ D.n) :
    ∃ l' E', Mt (putD D ((a : Int) + q.o.toNat) (markR k q (1 + j)).bytes) a p l' E' ⟨q.s, q.o + 1, q.l + 1, (markR k q (1 + j)).sum, k⟩ (dn || decide (k < q.m)) (j + 1) ∧ (l'.length = if (dn || decide (k < q.m)) = true then l.length else l.length + 1) ∧
      (putD D ((a : Int) + q.o.toNat) (markR k q (1 + j)).bytes).n = D.n ∧ (putD D ((a : Int) + q.o.toNat) (markR k q (1 + j)).bytes).acts = D.acts + 2 := by
  have ho := h.o
  have hl := h.num
  have hv := h.v
  have hok : (markR k q (1 + j)).ok := markR_ok k q (1 + j) (by omega) (by omega) hv (by omega)
  have hlen : lenOf (markR k q (1 + j)) = 1 := rfl
  have hbl : (markR k q (1 + j)).bytes.length = 64 * 1 := by rw [Rc.bytes_len hok]; rfl
  have hsum : (markR k q (1 + j)).sum ≤ 4294967295 := by first | exact crc.more_le _ _ | exact crcMath.more_le _ _
  obtain ⟨e1, e2, e3, e4, e5⟩ := put_reads h.reads (a + q.o.toNat) (markR k q (1 + j)).bytes 1 (by omega) hbl
  rw [Int.natCast_add] at e1 e2 e3 e4 e5
  refine ⟨if (dn || decide (k < q.m)) = true then l else l ++ [(q, markR k q (1 + j))], if (dn || decide (k < q.m)) = true then E else ⟨q.s, q.o + 1, q.l + 1, (markR k q (1 + j)).sum, k⟩, ⟨h.s, by dsimp only; omega, by dsimp only; omega, by dsimp only; omega, by dsimp only; omega, ?_, e1, ?_, ?_⟩, by split <;> simp, e2, by rw [e3]⟩
  · split
    · exact h.e
    · rename_i hnd
      cases dn with
      | true => exact absurd rfl hnd
      | false =>
        have := (h.up rfl).2
        have he := h.e
        rw [this] at he
        rw [List.length_append, List.length_singleton]
        dsimp only
        omega
  · intro hd
    rw [hd, if_neg (by simp), if_neg (by simp)]
    rw [Bool.or_eq_false_iff] at hd
    have hkm := of_decide_eq_false hd.2
    have hs := (h.up hd.1).1
    obtain ⟨s1, _, _⟩ := hs.put (markR k q (1 + j)) hok (fits_of rfl rfl (by show q.m ≤ k; omega)) rfl (by rw [hlen]; omega)
    exact ⟨s1, rfl⟩
  · intro hd
    rw [hd, if_pos rfl, if_pos rfl]
    cases dn with
    | true =>
      obtain ⟨b1, b2⟩ := h.down rfl
      have := b1.put (a + q.o.toNat) (markR k q (1 + j)).bytes 1 (by omega) (by omega) hbl
      rw [Int.natCast_add] at this
      exact ⟨this, by dsimp only; omega⟩
    | false =>
      rw [Bool.false_or] at hd
      have hkm := of_decide_eq_true hd
      obtain ⟨hs, hE⟩ := h.up rfl
      subst hE
      refine ⟨⟨e1, by rw [e2]; exact hn, hs.chain.same (by have := hs.first; omega) (fun i h1 h2 => e5 i (by omega) (.inl h2)), hs.first, ?_, hs.may, markR k E (1 + j), hok, rfl, ?_, e4, by omega⟩, by dsimp only; omega⟩
      · rw [e5 a (by omega) (.inl (by omega))]
        exact hs.head
      · unfold fits markR
        dsimp only
        rw [decide_eq_false (show ¬ E.m ≤ k by omega), Bool.and_false, Bool.and_false]
theorem Mt.told {D : Dk} {a : Nat} {p : Ps} {l : List (Ps × Rc)} {E q : Ps} {dn : Bool} {j : Nat} (h : Mt D a p l E q dn j) : scanOf D a 40 ⟨p.s, 0, 0, 0, 0⟩ true = (l, E, 0) := by
  cases dn with
  | false =>
    obtain ⟨hs, rfl⟩ := h.up rfl
    exact hs.toldHead _ true rfl rfl (.inl rfl)
  | true => exact (h.down rfl).1.told _ true rfl rfl (.inl rfl)
end Go.Proofs.YtklcbogjkkfnkaaGreat.sc
