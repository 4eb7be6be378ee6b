import Derived.Test.YtolbalafhfpjbaaGreatPWriterSpaceM
namespace Go.Proofs.YtolbalafhfpjbaaGreat.wr
set_option linter.unusedSimpArgs false
set_option linter.unusedVariables false
open Go.RowKit mem base disk owns geom
open sc (Ps Seal sealed Reads putk)
open us (Rw TAt RAt upd grabOf shutOf touchOf inState backOf isNum)
open item (It Items valsOf allMay)
def ord (t : Nat) : Int := [1, 0, 2, 3, 4, 5, 6, 7].getD t 0
def lst (t : Nat) : List Int := (List.range 8).map fun s : Nat => if (s : Int) = ord t then 1 else if ((List.range t).map ord).contains (s : Int) then 2 else 0
theorem ord_bd : ∀ t, t < 8 → 0 ≤ ord t ∧ ord t ≤ 7 := by decide
theorem lst_at : ∀ t, t < 8 → (lst t).getD (ord t).toNat 0 = 1 := by decide
theorem lst_next : ∀ t, t < 7 → (lst t).getD (ord (t + 1)).toNat 0 = 0 := by decide
theorem lst_step : ∀ t, t < 7 → ((lst t).modify (ord (t + 1)).toNat (fun s => if s = 0 then 1 else s)).modify (ord t).toNat (fun s => if s = 1 then 2 else s) = lst (t + 1) := by decide
theorem lst_more : ∀ t, t < 7 → ∀ s, s < 8 → (lst t).getD s 0 ≠ 0 → (lst (t + 1)).getD s 0 ≠ 0 := by decide
theorem lst_free : ∀ t, t < 7 → inS (lst t) 0 8 = ord (t + 1) :: (inS (lst t) 0 8).tail := by decide
theorem lst_len (t : Nat) : (lst t).length = 8 := by simp [lst]
structure Pq (m t a : Nat) (D : Dk) (T : List Rw) (p : Ps) (its : List It) : Prop where
 tt : t ≤ 7
 seg : p.s = ord t
 off : 0 ≤ p.o
 far : 21 * (t : Int) + (offOf p - 1) + 2 * its.length ≤ 2 * m
 acts : D.acts ≤ 10 * a
 lsn : 1 ≤ p.l ∧ p.l ≤ 1 + 3 * a
 sts : sts T = lst t
section
variable {m t a : Nat} {r q : Int} {D : Dk} {T : List Rw} {p : Ps} {its : List It} {bl : List UInt8} {i : It}
theorem Pq.mono {a' : Nat} (h : Pq m t a D T p its) (ha : a ≤ a') : Pq m t a' D T p its := ⟨h.tt, h.seg, h.off, h.far, by have := h.acts; omega, by have := h.lsn; omega, h.sts⟩
theorem Pq.len (h : Pq m t a D T p its) : T.length = 8 := by
 have h1 := congrArg List.length h.sts
 unfold wr.sts at h1
 rwa [List.length_map, lst_len] at h1
theorem Pq.more (h : Pq m t a D T p its) : Pq (m + 1) t a D T p (its ++ [i]) := ⟨h.tt, h.seg, h.off, by have := h.far; rw [List.length_append]; simp; omega, h.acts, h.lsn, h.sts⟩
theorem Pq.emit (h : Pq m t a D T p its) (hp : Pl 8 24 r q p its bl D) (h0 : 0 ≤ r ∧ 0 ≤ q) (ha : a ≤ 1000) :
  Pq m t (a + 1) (allD D (2 + 2 * r + 4 * q + p.s * 24) p its bl) (allT T p its) (allP p its bl) [] ∧ offOf (allP p its bl) = offOf p + (if its = [] then 0 else 1 + (record.count its : Int)) := by
 have h3 := offOf_le h.off
 have hac := h.acts
 have hl := h.lsn
 have hf := h.far
 by_cases hne : its = []
 ·subst hne
  unfold allD allT allP
  rw [if_pos rfl, if_pos rfl, if_pos rfl, if_pos rfl]
  exact ⟨h.mono (by omega), by omega⟩
 obtain ⟨_, _, e3, _⟩ := emit_pl hp hne (by omega) h0 (by omega) (by omega) (by omega)
 have hcl := record.count_le its
 have hpos : 1 ≤ its.length := Nat.pos_of_ne_zero (fun h0 => hne (List.eq_nil_of_length_eq_zero h0))
 have ho : offOf (emitP p its bl) = offOf p + (1 + (record.count its : Int)) := by
  unfold emitP
  show (if offOf p + (1 + (record.count its : Int)) < 1 then (1 : Int) else offOf p + (1 + (record.count its : Int))) = _
  rw [if_neg (by omega)]
 unfold allP allD allT
 rw [if_neg hne, if_neg hne, if_neg hne, if_neg hne]
 refine ⟨⟨h.tt, h.seg, ?_, ?_, ?_, ?_, ?_⟩, ho⟩
 ·show 0 ≤ offOf p + (1 + (record.count its : Int)); omega
 ·rw [ho]; simp; omega
 ·omega
 ·show 1 ≤ p.l + 1 ∧ p.l + 1 ≤ 1 + 3 * ((a + 1 : Nat) : Int); omega
 ·rw [h.seg]
  obtain ⟨k, hk⟩ := Int.eq_ofNat_of_zero_le (ord_bd t (by have := h.tt; omega)).1
  rw [hk, sts_touch]
  exact h.sts
theorem Pq.turn (h : Pq m t a D T p its) (hp : Pl 8 24 r q p its bl D) (h0 : 0 ≤ r ∧ 0 ≤ q) (ha : a ≤ 1000) (hm : m ≤ 79) (hn : ¬ fit1 24 p its i) (hn2 : ¬ fit2 24 p its i) :
  t < 7 ∧ inState T 0 T.length = ord (t + 1) :: (inS (lst t) 0 8).tail ∧ inState (allT T p its) 0 (allT T p its).length = ord (t + 1) :: (inS (lst t) 0 8).tail ∧ 22 ≤ (allP p its bl).o ∧
   Pq (m + 1) (t + 1) (a + 2) (turnD (allD D (2 + 2 * r + 4 * q + p.s * 24) p its bl) r q 24 (allP p its bl) (ord (t + 1))) (shutOf (touchOf (grabOf (allT T p its) (ord (t + 1))) (allP p its bl).s (allP p its bl).l) (allP p its bl).s) (turnP (allP p its bl) (ord (t + 1))) ([] ++ [i]) := by
 obtain ⟨he, ho⟩ := h.emit hp h0 ha
 have h3 := offOf_le h.off
 have hld : ldOf i = 0 ∨ ldOf i = 1 := by unfold ldOf; split <;> simp
 have hcl := record.count_le its
 have h22 : 22 ≤ offOf (allP p its bl) := by
  rw [ho]
  by_cases hne : its = []
  ·subst hne
   rw [if_pos rfl]
   unfold fit1 at hn
   simp only [List.length_nil, record.count, List.filter_nil] at hn
   omega
  ·rw [if_neg hne]
   unfold fit2 at hn2
   omega
 have hf := he.far
 simp only [List.length_nil] at hf
 have ht7 : t < 7 := by omega
 have hsg := he.seg
 obtain ⟨k, hk⟩ := Int.eq_ofNat_of_zero_le (ord_bd t (by omega)).1
 obtain ⟨k', hk'⟩ := Int.eq_ofNat_of_zero_le (ord_bd (t + 1) (by omega)).1
 have hoff := offOf_le he.off
 have hP : Pl 8 24 r q (allP p its bl) [] [] (allD D (2 + 2 * r + 4 * q + p.s * 24) p its bl) := by
  by_cases hne : its = []
  ·subst hne
   unfold allP allD
   rw [if_pos rfl, if_pos rfl]
   exact { hp with cnt := by simp [record.count], room := fun hh => absurd rfl hh }
  ·unfold allP allD
   rw [if_neg hne, if_neg hne]
   have hac := h.acts
   have hl := h.lsn
   exact (emit_pl hp hne (by omega) h0 (by omega) (by omega) (by omega)).1
 have hac := he.acts
 have hl := he.lsn
 have hx := ord_bd (t + 1) (by omega)
 obtain ⟨_, _, e3, _⟩ := turn_pl hP (x := ord (t + 1)) ⟨hx.1, by omega⟩ (by omega) h0 (by omega) (by omega) (by omega) (by omega)
 refine ⟨ht7, ?_, ?_, by omega, ⟨by omega, rfl, by show (0 : Int) ≤ 1; omega, ?_, by omega, ?_, ?_⟩⟩
 ·rw [h.len, inState_sts, h.sts]; exact lst_free t ht7
 ·rw [he.len, inState_sts, he.sts]; exact lst_free t ht7
 ·show 21 * ((t + 1 : Nat) : Int) + (1 - 1) + 2 * ((1 : Nat) : Int) ≤ 2 * ((m + 1 : Nat) : Int)
  omega
 ·show 1 ≤ (allP p its bl).l + 1 ∧ (allP p its bl).l + 1 ≤ 1 + 3 * ((a + 2 : Nat) : Int); omega
 ·rw [hsg, hk, sts_shut, sts_touch, hk', sts_grab, he.sts]
  have := lst_step t ht7
  rw [hk, hk'] at this
  simpa using this
end
theorem putk_now {D : Dk} (h : Reads D) (a : Nat) (bs : List UInt8) (m : Nat) (ha : a + m ≤ D.n) (hl : bs.length = 64 * m) : ∀ k, k ≤ m → Reads (putk D (a : Int) bs k) ∧ (putk D (a : Int) bs k).n = D.n ∧ ∀ i, i < D.n → disk.sec (putk D (a : Int) bs k).now i = if a ≤ i ∧ i < a + k then disk.sec bs (i - a) else disk.sec D.now i
 | 0, _ => ⟨h, rfl, fun i _ => by rw [if_neg (by omega)]; rfl⟩
 | k + 1, hk => by
  obtain ⟨i1, i2, i3⟩ := putk_now h a bs m ha hl k (by omega)
  obtain ⟨_, j2, j3, _, j5⟩ := sc.write_reads i1 (a + k) (disk.sec bs k) (by omega) (disk.sec_length bs k m hl (by omega))
  have e : putk D (a : Int) bs (k + 1) = ((putk D (a : Int) bs k).write ((a + k : Nat) : Int) (disk.sec bs k)).2 := by
   rw [show ((a + k : Nat) : Int) = (a : Int) + (k : Int) by omega]; rfl
  rw [e]
  refine ⟨j2, j3.trans i2, fun i hi => ?_⟩
  rw [j5 i (by omega), i3 i hi]
  by_cases h1 : i = a + k
  ·rw [if_pos h1, if_pos (by omega), show i - a = k by omega]
  ·rw [if_neg h1]
   by_cases h2 : a ≤ i ∧ i < a + k
   ·rw [if_pos h2, if_pos (by omega)]
   ·rw [if_neg h2, if_neg (by omega)]
theorem flat_sec : ∀ (l : List (List UInt8)) (j : Nat) (b : List UInt8), (∀ x ∈ l, x.length = 64) → l[j]? = some b → disk.sec l.flatten j = b
 | [], j, b, _, h => by simp at h
 | x :: l, 0, b, hx, h => by
  simp at h
  subst h
  unfold disk.sec
  rw [List.flatten_cons, Nat.mul_zero, List.drop_zero, List.take_append_of_le_length (by rw [hx x (by simp)]; omega), List.take_of_length_le (by rw [hx x (by simp)]; omega)]
 | x :: l, j + 1, b, hx, h => by
  have ih := flat_sec l j b (fun y hy => hx y (by simp [hy])) (by simpa using h)
  unfold disk.sec at ih ⊢
  rw [List.flatten_cons, show 64 * (j + 1) = x.length + 64 * j by rw [hx x (by simp)]; omega, List.drop_length_add_append, ih]
theorem recAt_sec (p : Ps) (its : List It) (bl : List UInt8) (K j : Nat) (h6 : its.length ≤ 6) (hl : bl.length = 64 * K) (hj : j < K) : disk.sec (recAt p its bl K).bytes (1 + j) = disk.sec bl j := by
 have h1 : (recAt p its bl K).first.length = 64 := record.Rc.first_len _ h6
 have h2 := flat_sec (blksOf bl K) j (disk.sec bl j) (fun x hx => by
  unfold blksOf at hx
  obtain ⟨k, hk, rfl⟩ := List.mem_map.1 hx
  exact disk.sec_length bl k _ hl (List.mem_range.1 hk)) (by simp [blksOf, hj])
 unfold record.Rc.bytes record.Rc.tail
 unfold disk.sec at h2 ⊢
 rw [show 64 * (1 + j) = (recAt p its bl K).first.length + 64 * j by rw [h1]; omega, List.drop_length_add_append]
 exact h2
def Plc (r q : Int) (t : Nat) (D : Dk) (p : Ps) (its : List It) (bl : List UInt8) (L : List (Int × Int)) : Prop := ∀ x ∈ L, ∃ s o : Nat, x.1 = 2 + 2 * r + 4 * q + s * 24 + o ∧ s < 8 ∧ 2 ≤ o ∧ o ≤ 22 ∧ (lst t).getD s 0 ≠ 0 ∧
 (((s : Int) = p.s ∧ ∃ j : Nat, (o : Int) = offOf p + 1 + j ∧ j < record.count its ∧ disk.sec bl j = fillOf x.2) ∨ (((s : Int) = p.s → (o : Int) < offOf p) ∧ disk.sec D.now x.1.toNat = fillOf x.2))
section
variable {m t a : Nat} {r q : Int} {D : Dk} {T : List Rw} {p : Ps} {its : List It} {bl : List UInt8} {L : List (Int × Int)}
theorem head_now (h : Reads D) (x : Nat) (hx : x < D.n) (i : Nat) (hi : i < D.n) (hne : i ≠ x) : disk.sec (headD D (x : Int) p).now i = disk.sec D.now i := by
 obtain ⟨_, _, _, _, j5⟩ := sc.write_reads h x (headAt p).bytes hx (hd.Hd.bytes_len _)
 have := j5 i hi
 rw [if_neg hne] at this
 exact this
theorem Plc.emit (h : Plc r q t D p its bl L) (hq : Pq m t a D T p its) (hp : Pl 8 24 r q p its bl D) (h0 : 0 ≤ r ∧ 0 ≤ q) (ha : a ≤ 1000) : Plc r q t (allD D (2 + 2 * r + 4 * q + p.s * 24) p its bl) (allP p its bl) [] [] L := by
 by_cases hne : its = []
 ·subst hne
  unfold allD allP
  rw [if_pos rfl, if_pos rfl]
  intro x hx
  obtain ⟨s, o, h1, h2, h3, h4, h5, h6⟩ := h x hx
  refine ⟨s, o, h1, h2, h3, h4, h5, .inr (h6.resolve_left ?_)⟩
  rintro ⟨_, j, _, hj, _⟩
  simp [record.count] at hj
 unfold allD allP
 rw [if_neg hne, if_neg hne]
 have hac := hq.acts
 have hln := hq.lsn
 obtain ⟨_, _, _, e4, e5, _⟩ := emit_pl hp hne (by omega) h0 (by omega) (by omega) (by omega)
 have hrm := hp.room hne
 have hof := offOf_le hq.off
 have hpl := hp.place
 have hfit := hp.fits
 have h6 := hp.may.2
 have hcnt := hp.cnt
 obtain ⟨x0, hx0⟩ : ∃ x0 : Nat, 2 + 2 * r + 4 * q + p.s * 24 = (x0 : Int) := ⟨(2 + 2 * r + 4 * q + p.s * 24).toNat, by omega⟩
 obtain ⟨f, hf⟩ : ∃ f : Nat, offOf p = (f : Int) := ⟨(offOf p).toNat, by omega⟩
 obtain ⟨K, hK⟩ : ∃ K, record.count its = K := ⟨_, rfl⟩
 have hb := record.Rc.bytes_len (rec_ok hp hne)
 rw [show (recAt (atOf p) its bl (record.count its)).bks.length = record.count its from blksOf_len _ _] at hb
 rw [hK] at hb hcnt hrm
 have hnow := (putk_now e4 (x0 + f) _ (1 + K) (by rw [e5]; omega) hb (1 + K) (Nat.le_refl _)).2.2
 have hpre : ∀ i, i < D.n → i ≠ x0 → disk.sec (preD D (2 + 2 * r + 4 * q + p.s * 24) p).now i = disk.sec D.now i := fun i hi hn => by
  unfold preD
  split
  ·rw [hx0]
   exact head_now hp.reads x0 (by omega) i hi hn
  ·rfl
 have heq : emitD D (2 + 2 * r + 4 * q + p.s * 24) p its bl = putk (preD D (2 + 2 * r + 4 * q + p.s * 24) p) ((x0 + f : Nat) : Int) (recAt (atOf p) its bl K).bytes (1 + K) := by
  unfold emitD
  rw [hK, hf, hx0, Int.natCast_add]
 intro x hx
 obtain ⟨s, o, h1, h2, h3, h4, h5, h7⟩ := h x hx
 have hxN : x.1.toNat < D.n := by omega
 refine ⟨s, o, h1, h2, h3, h4, h5, .inr ?_⟩
 have hoe : offOf (emitP p its bl) = offOf p + (1 + (K : Int)) := by
  unfold emitP
  rw [hK]
  show (if offOf p + (1 + (K : Int)) < 1 then (1 : Int) else offOf p + (1 + (K : Int))) = _
  rw [if_neg (by omega)]
 have hse : (emitP p its bl).s = p.s := rfl
 rw [hoe, hse, heq, hnow _ (by rw [e5]; exact hxN)]
 rcases h7 with ⟨g1, j, g2, g3, g4⟩ | ⟨g1, g2⟩
 ·rw [hK] at g3
  refine ⟨fun _ => by omega, ?_⟩
  rw [if_pos (by omega), show x.1.toNat - (x0 + f) = 1 + j by omega, recAt_sec _ _ _ _ _ h6 hcnt g3]
  exact g4
 ·refine ⟨fun e => by have := g1 e; omega, ?_⟩
  have hout : ¬ (x0 + f ≤ x.1.toNat ∧ x.1.toNat < x0 + f + (1 + K)) := by
   by_cases hs : (s : Int) = p.s
   ·have := g1 hs; omega
   ·omega
  rw [if_neg hout, hpre _ hxN (by
   by_cases hs : (s : Int) = p.s
   ·omega
   ·omega)]
  exact g2
theorem Plc.turn (h : Plc r q t D p [] [] L) (hp : Pl 8 24 r q p [] [] D) (h0 : 0 ≤ r ∧ 0 ≤ q) (ht : t < 7) (hsg : p.s = ord t) (ho : 22 ≤ p.o ∧ p.o ≤ 23) (hac : D.acts ≤ 700000) (hln : p.l ≤ 1900000000) : Plc r q (t + 1) (turnD D r q 24 p (ord (t + 1))) (turnP p (ord (t + 1))) [] [] L := by
 have hx := ord_bd (t + 1) (by omega)
 obtain ⟨_, _, _, a, ha1, ha2, ha3, _, hP⟩ := turn_pl hp (x := ord (t + 1)) ⟨hx.1, by omega⟩ (by omega) h0 (by omega) (by omega) hac hln
 have hb := record.Rc.bytes_len (turn_ok hp (x := ord (t + 1)) ⟨hx.1, by omega⟩ (by omega))
 rw [show (turnR p (ord (t + 1))).bks.length = 0 from blksOf_len _ _] at hb
 obtain ⟨_, hn2, hnow⟩ := putk_now hp.reads a _ 1 ha2 hb 1 (Nat.le_refl _)
 have hfit := hp.fits
 have hpl := hp.place
 obtain ⟨y, hy⟩ : ∃ y : Nat, 2 + 2 * r + 4 * q + ord (t + 1) * 24 = (y : Int) := ⟨(2 + 2 * r + 4 * q + ord (t + 1) * 24).toNat, by omega⟩
 have he : turnD D r q 24 p (ord (t + 1)) = headD (putk D (a : Int) (turnR p (ord (t + 1))).bytes 1) (y : Int) (turnP p (ord (t + 1))) := by unfold turnD; rw [ha1, hy]
 intro x hx2
 obtain ⟨s, o, h1, h2, h3, h4, h5, h7⟩ := h x hx2
 have g := h7.resolve_left (by rintro ⟨_, j, _, hj, _⟩; simp [record.count] at hj)
 have hso : offOf p = p.o := by unfold offOf; rw [if_neg (by omega)]
 rw [hso] at g
 have hne : (s : Int) ≠ ord (t + 1) := fun e => by
  have := lst_next t ht
  rw [← e, Int.toNat_natCast] at this
  exact h5 this
 refine ⟨s, o, h1, h2, h3, h4, lst_more t ht s h2 h5, .inr ⟨fun e => absurd e hne, ?_⟩⟩
 have hxN : x.1.toNat < D.n := by omega
 rw [he, head_now ha3 y (by rw [hn2]; omega) _ (by rw [hn2]; exact hxN) (by omega), hnow _ hxN, if_neg ?_]
 ·exact g.2
 ·by_cases hs : (s : Int) = p.s
  ·have := g.1 hs; omega
  ·omega
theorem Plc.hold (h : Plc r q t D p its bl L) (hcnt : bl.length = 64 * record.count its) (i : It) (bb : List UInt8) : Plc r q t D p (its ++ [i]) (bl ++ bb) L := by
 intro x hx
 obtain ⟨s, o, h1, h2, h3, h4, h5, h7⟩ := h x hx
 refine ⟨s, o, h1, h2, h3, h4, h5, h7.imp ?_ id⟩
 rintro ⟨g1, j, g2, g3, g4⟩
 refine ⟨g1, j, g2, by have := record.count_snoc its i; omega, ?_⟩
 rw [← g4]
 unfold disk.sec
 rw [List.drop_append_of_le_length (by omega), List.take_append_of_le_length (by rw [List.length_drop]; omega)]
theorem Plc.new (h : Plc r q t D p its bl L) (hcnt : bl.length = 64 * record.count its) (hsg : p.s = ord t) (ht : t ≤ 7) (ho : 0 ≤ p.o) (i : It) (hi : i.loaded = true) (hrm : offOf p + 1 + ((record.count its : Int) + 1) ≤ 23) (n : Int) : Plc r q t D p (its ++ [i]) (bl ++ fillOf n) (L ++ [(heldAt r q 24 p its i, n)]) := by
 intro x hx
 rcases List.mem_append.1 hx with hx | hx
 ·exact h.hold hcnt i _ x hx
 ·simp only [List.mem_singleton] at hx
  subst hx
  have hb := ord_bd t (by omega)
  have hof := offOf_le ho
  obtain ⟨s, hs⟩ : ∃ s : Nat, ord t = (s : Int) := ⟨(ord t).toNat, by omega⟩
  obtain ⟨o, hoo⟩ : ∃ o : Nat, offOf p + 1 + (record.count its : Int) = (o : Int) := ⟨(offOf p + 1 + (record.count its : Int)).toNat, by omega⟩
  refine ⟨s, o, ?_, by omega, by omega, by omega, ?_, .inl ⟨by rw [hsg, hs], record.count its, by omega, ?_, ?_⟩⟩
  ·unfold heldAt
   rw [if_pos hi, hsg, hs]
   show 2 + 2 * r + 4 * q + (s : Int) * 24 + offOf p + 1 + (record.count its : Int) = _
   omega
  ·have := lst_at t (by omega)
   rw [hs, Int.toNat_natCast] at this
   rw [this]
   decide
  ·rw [record.count_snoc, if_pos hi]; omega
  ·show disk.sec (bl ++ fillOf n) (record.count its) = fillOf n
   unfold disk.sec
   rw [List.drop_append_of_le_length (by omega), List.drop_of_length_le (by omega), List.nil_append, List.take_of_length_le (by rw [fillOf_length]; omega)]
theorem Plc.apart (h : Plc r q t D p its bl L) (hsg : p.s = ord t) (ht : t ≤ 7) (ho : 0 ≤ p.o) (i : It) (hi : i.loaded = true) (hrm : offOf p + 1 + ((record.count its : Int) + 1) ≤ 23) : ∀ x ∈ L, x.1 ≠ heldAt r q 24 p its i := by
 intro x hx e
 obtain ⟨s, o, h1, h2, h3, h4, h5, h7⟩ := h x hx
 have hof := offOf_le ho
 have hb := ord_bd t (by omega)
 unfold heldAt at e
 rw [if_pos hi, hsg] at e
 rcases h7 with ⟨g1, j, g2, g3, _⟩ | ⟨g1, _⟩
 ·omega
 ·by_cases hs : (s : Int) = p.s
  ·have := g1 hs; omega
  ·omega
end
section
variable {w W : World} {zp v d g tp V rd rt : Nat} {xp : Option Addr} {r q : Int} {D : Dk} {T : List Rw} {p : Ps} {its : List It} {bl : List UInt8} {F : List Nat} {A : Option Addr} {c : Nat} {H : Option Addr} {e : Nat} (i : It) (Bp : Option Addr) (nb cb : Nat) (bb : List UInt8)
theorem Lwr.step2 {W' : World} {D' : Dk} {T' : List Rw} {p' : Ps} {its' : List It} {bl' : List UInt8} (h : Lwr w W zp v d g tp V rd rt xp 8 8 24 r q D T p its bl F A c H e) (hs : Step W W' w.heap.size v d g tp V F 8 8 24 r q its bl A c H e D' T' p' its' bl') : ∃ F' A' c' H' e', Lwr w W' zp v d g tp V rd rt xp 8 8 24 r q D' T' p' its' bl' F' A' c' H' e' ∧ Kept (ours v V F A its.length c H bl.length e) W W' ∧ ∀ x ∈ ours v V F' A' its'.length c' H' bl'.length e', x ∈ ours v V F A its.length c H bl.length e ∨ W.heap.size ≤ x := by
 obtain ⟨F', A', c', H', e', h1, h2, h3, h4, h5⟩ := hs
 have hsz := h.kept.size
 have hz := h.blk.lt
 have sub : ∀ x ∈ ours v V F' A' its'.length c' H' bl'.length e', x ∈ ours v V F A its.length c H bl.length e ∨ W.heap.size ≤ x := fun x hx => by
  unfold ours at hx ⊢
  simp only [List.mem_cons, List.mem_append] at hx ⊢
  rcases hx with rfl | rfl | (hx | hx) | hx
  ·exact .inl (.inl rfl)
  ·exact .inl (.inr (.inl rfl))
  ·exact (h2 x hx).imp (fun g => .inr (.inr (.inl (.inl g)))) id
  ·exact (h4 x hx).imp (fun g => .inr (.inr (.inl (.inr g)))) id
  ·exact (h5 x hx).imp (fun g => .inr (.inr (.inr g))) id
 exact ⟨F', A', c', H', e', ⟨h1, h3.blk h.blk h.zn, fun hm => (sub zp hm).elim h.zn (fun g => by omega), fun x hx => (sub x hx).elim (h.new x) (fun g => by omega), h.kept.trans h3 (fun j hj => .inr (h.new j hj))⟩, h3, sub⟩
theorem Lwr.emit2 (h : Lwr w W zp v d g tp V rd rt xp 8 8 24 r q D T p its bl F A c H e) (hac : D.acts ≤ 700000) (hln : p.l ≤ 1900000000) :
  Calls Tryz.prog 44 #[.pointer (some ⟨v, 0, none⟩)] W fun ex W' => ex = .returned (.int .i64 0) ∧ ∃ F' A' c' H' e', Lwr w W' zp v d g tp V rd rt xp 8 8 24 r q (allD D (2 + 2 * r + 4 * q + p.s * 24) p its bl) (allT T p its) (allP p its bl) [] [] F' A' c' H' e' ∧ Kept (ours v V F A its.length c H bl.length e) W W' ∧ ∀ x ∈ ours v V F' A' 0 c' H' 0 e', x ∈ ours v V F A its.length c H bl.length e ∨ W.heap.size ≤ x :=
 (emit_all w.heap.size v d g tp V F 8 8 24 r q D T p its bl A c H e W h.ws hac hln).mono fun ex W' ⟨he, F', A', c', H', e', h1, h2, h3, h4, h5⟩ =>
  ⟨he, h.step2 ⟨F', A', c', H', e', h1, h2, h3.mono (fun j hj => by simp at hj ⊢; rcases hj with hj | hj | hj <;> simp [hj]), fun j hj => .inl (h4 j hj), fun j hj => .inl (h5 j hj)⟩⟩
structure PlcAdd (w W W' : World) (zp v d g tp V rd rt : Nat) (xp : Option Addr) (r q : Int) (m a : Nat) (i : It) (bb : List UInt8) (L : List (Int × Int)) (n k : Int) (t' : Nat) (D' : Dk) (T' : List Rw) (p' : Ps) (its' : List It) (bl' : List UInt8) (F' : List Nat) (A' : Option Addr) (c' : Nat) (H' : Option Addr) (e' : Nat) : Prop where
 lw : Lwr w W' zp v d g tp V rd rt xp 8 8 24 r q D' T' p' its' bl' F' A' c' H' e'
 pq : Pq (m + 1) t' (a + 3) D' T' p' its'
 no : i.loaded = false → k = 0 ∧ Plc r q t' D' p' its' bl' L
 yes : i.loaded = true → bb = fillOf n → Plc r q t' D' p' its' bl' (L ++ [(k, n)]) ∧ (∀ x ∈ L, x.1 ≠ k)
def Subs (W : World) (O O' : List Nat) : Prop := ∀ x ∈ O', x ∈ O ∨ W.heap.size ≤ x
theorem heldAt_no {p : Ps} {its : List It} (h : i.loaded = false) : heldAt r q 24 p its i = 0 := by unfold heldAt; rw [if_neg (by rw [h]; simp)]
theorem Lwr.places {m t a : Nat} {L : List (Int × Int)} (n : Int) (h : Lwr w W zp v d g tp V rd rt xp 8 8 24 r q D T p its bl F A c H e) (hq : Pq m t a D T p its) (hl : Plc r q t D p its bl L) (ha : a ≤ 900) (hm : m ≤ 79) (hadd : addOk i nb) (hbb : bb.length = nb) (hv : Vals W (ours v V F A its.length c H bl.length e) Bp (bb.map B)) :
  Calls Tryz.prog 42 #[.pointer (some ⟨v, 0, none⟩), i.val, .slice Bp nb cb, .bool true] W fun ex W' => ∃ k t' D' T' p' its' bl' F' A' c' H' e', ex = .returned (.tuple #[.int .i64 k, .int .i64 0]) ∧ PlcAdd w W W' zp v d g tp V rd rt xp r q m a i bb L n k t' D' T' p' its' bl' F' A' c' H' e' ∧ Kept (ours v V F A its.length c H bl.length e) W W' ∧ Subs W (ours v V F A its.length c H bl.length e) (ours v V F' A' its'.length c' H' bl'.length e') := by
 have hp := h.ws.pl
 have hbd := h.ws.geo.bounds
 have h0 : 0 ≤ r ∧ 0 ≤ q := ⟨by omega, by omega⟩
 have hac := hq.acts
 have hln := hq.lsn
 have hld : ldOf i = if i.loaded = true then 1 else 0 := rfl
 by_cases h1 : fit1 24 p its i
 ·refine (add_ok w.heap.size v d g tp V F 8 8 24 r q D T p its bl A c H e i Bp nb cb bb true W h.ws h.kept.size hadd hbb hv (fun W1 k => (room_keep w.heap.size v d g tp V F 8 8 24 r q D T p its bl A c H e i true W1 (h.ws.keep k) h1)) h1.1 (by have := h1.2; omega)).mono ?_
  rintro ex W' ⟨he, hs⟩
  obtain ⟨F', A', c', H', e', hlw, hk⟩ := h.step2 hs
  refine ⟨_, t, D, T, p, _, _, F', A', c', H', e', he, ⟨hlw, hq.more.mono (by omega), fun hi => ⟨heldAt_no i hi, hl.hold hp.cnt i bb⟩, fun hi hb => ?_⟩, hk⟩
  have hr := h1.2
  rw [hld, if_pos hi] at hr
  subst hb
  exact ⟨hl.new hp.cnt hq.seg hq.tt hq.off i hi (by omega) n, hl.apart hq.seg hq.tt hq.off i hi (by omega)⟩
 ·by_cases h2 : fit2 24 p its i
  ·refine (add_ok w.heap.size v d g tp V F 8 8 24 r q D T p its bl A c H e i Bp nb cb bb true W h.ws h.kept.size hadd hbb hv (fun W1 k => (room_emit w.heap.size v d g tp V F 8 8 24 r q D T p its bl A c H e i true W1 (h.ws.keep k) h1 h2 (by omega) (by omega))) (by simp) (by have h4 := allP_off p its bl h.ws.pl.off.1; unfold fit2 at h2; show offOf (allP p its bl) + 1 + ((record.count [] : Int) + ldOf i) ≤ 24 - 1; simp only [record.count, List.filter_nil, List.length_nil]; unfold record.count at h2 h4; omega)).mono ?_
   rintro ex W' ⟨he, hs⟩
   obtain ⟨F', A', c', H', e', hlw, hk⟩ := h.step2 hs
   obtain ⟨q1, q2⟩ := hq.emit hp h0 (by omega)
   have l1 := hl.emit hq hp h0 (by omega)
   refine ⟨_, t, _, _, _, _, _, F', A', c', H', e', he, ⟨hlw, q1.more.mono (by omega), fun hi => ⟨heldAt_no i hi, l1.hold rfl i bb⟩, fun hi hb => ?_⟩, hk⟩
   have hr : offOf (allP p its bl) + 1 + (((record.count [] : Nat) : Int) + 1) ≤ 23 := by
    unfold fit2 at h2
    rw [hld, if_pos hi] at h2
    rw [q2]
    simp only [record.count, List.filter_nil, List.length_nil]
    split
    ·rename_i hh
     subst hh
     simp [record.count] at h2
     omega
    ·unfold record.count at h2
     omega
   subst hb
   exact ⟨l1.new rfl q1.seg q1.tt q1.off i hi hr n, l1.apart q1.seg q1.tt q1.off i hi hr⟩
  ·obtain ⟨t1, t2, t3, t4, t5⟩ := hq.turn hp h0 (by omega) hm h1 h2
   obtain ⟨q1, q2⟩ := hq.emit hp h0 (by omega)
   have l1 := hl.emit hq hp h0 (by omega)
   have hx := ord_bd (t + 1) (by omega)
   refine (add_ok w.heap.size v d g tp V F 8 8 24 r q D T p its bl A c H e i Bp nb cb bb true W h.ws h.kept.size hadd hbb hv (fun W1 k => (room_turn w.heap.size v d g tp V F 8 8 24 r q D T p its bl A c H e i true (ord (t + 1)) _ W1 (h.ws.keep k) h1 h2 (by rw [t2, List.length_cons]; show ¬ _ ≤ (0 : Int); omega) t3 (by rw [List.length_cons]; show (0 : Int) < _; omega) ⟨hx.1, by omega⟩ (by omega) (by omega) (by omega))) (by simp) (by show 1 + 1 + ((record.count [] : Int) + ldOf i) ≤ 24 - 1; simp only [record.count, List.filter_nil, List.length_nil]; unfold ldOf; split <;> omega)).mono ?_
   rintro ex W' ⟨he, hs⟩
   obtain ⟨F', A', c', H', e', hlw, hk⟩ := h.step2 hs
   have hP : Pl 8 24 r q (allP p its bl) [] [] (allD D (2 + 2 * r + 4 * q + p.s * 24) p its bl) := by
    by_cases hne : its = []
    ·subst hne
     unfold allP allD
     rw [if_pos rfl, if_pos rfl]
     exact { hp with cnt := by simp [record.count], room := fun hh => absurd rfl hh }
    ·unfold allP allD
     rw [if_neg hne, if_neg hne]
     exact (emit_pl hp hne (by omega) h0 (by omega) (by omega) (by omega)).1
   have l2 := l1.turn hP h0 t1 q1.seg ⟨t4, by have := hP.off; omega⟩ (by have := q1.acts; omega) (by have := q1.lsn; omega)
   refine ⟨_, t + 1, _, _, _, _, _, F', A', c', H', e', he, ⟨hlw, t5.mono (by omega), fun hi => ⟨heldAt_no i hi, l2.hold rfl i bb⟩, fun hi hb => ?_⟩, hk⟩
   have hr : offOf (turnP (allP p its bl) (ord (t + 1))) + 1 + (((record.count [] : Nat) : Int) + 1) ≤ 23 := by
    show (1 : Int) + 1 + ((0 : Nat) + 1) ≤ 23
    omega
   subst hb
   exact ⟨l2.new rfl rfl t5.tt (by show (0 : Int) ≤ 1; omega) i hi hr n, l2.apart rfl t5.tt (by show (0 : Int) ≤ 1; omega) i hi hr⟩
end
end Go.Proofs.YtolbalafhfpjbaaGreat.wr
