/- Package item: Decode. -/
import Derived.Test.YtbghkfjjmgmjmaaItemDec
namespace Go.Proofs.Ytbghkfjjmgmjmaa.item
open Go.RowKit Go.Proofs.Ytbghkfjjmgmjmaa.mem Go.Proofs.Ytbghkfjjmgmjmaa.base Go.Proofs.Ytbghkfjjmgmjmaa.row Go.Proofs.Ytbghkfjjmgmjmaa.rowBack Go.Proofs.Ytbghkfjjmgmjmaa.fill

/-- A block of items. -/
def IBlk (w : World) (g : Nat) (l : List It) : Prop := Blk w g 26 (valsOf l).toArray
theorem made_items (m : Nat) : madeCells #[.int .i64 0, .int .i64 0, .int .i64 0, .int .i64 0] (m * 4) = (valsOf (List.replicate m It.zero)).toArray := by
  have h0 : ∀ n : Nat, n < 4 → ([.int .i64 0, .int .i64 0, .int .i64 0, .int .i64 0] : List Value)[n]?.getD default = .int .i64 0 := by
    intro n hn
    match n, hn with
    | 0, _ => rfl
    | 1, _ => rfl
    | 2, _ => rfl
    | 3, _ => rfl
  have hv : valsOf (List.replicate m It.zero) = List.replicate (m * 4) (.int .i64 0) := by
    induction m with
    | zero => rfl
    | succ m ih => rw [List.replicate_succ, show (m + 1) * 4 = m * 4 + 1 + 1 + 1 + 1 by omega, List.replicate_succ, List.replicate_succ, List.replicate_succ, List.replicate_succ, ← ih]; rfl
  rw [hv]
  apply Array.ext
  · simp [madeCells]
  · intro i h1 h2
    simp [madeCells, h0 (i % 4) (Nat.mod_lt _ (by omega))]
theorem IBlk.new (w : World) (m : Nat) : IBlk (w.alloc (.cells (madeCells #[.int .i64 0, .int .i64 0, .int .i64 0, .int .i64 0] (m * 4)) 26)) w.heap.size (List.replicate m It.zero) := by
  rw [made_items]
  exact Blk.new w _ _
theorem IBlk.at_ {w : World} {g : Nat} {l : List It} (h : IBlk w g l) {k : Nat} {i : It} (hk : l[k]? = some i) : ItAt w ⟨g, k * 4, none⟩ i := by
  have e : ∀ t, t < 4 → w.cell? ⟨g, k * 4 + t, none⟩ = i.vals[t]? := fun t ht => by
    rw [Blk.cell h, List.getElem?_toArray, Nat.mul_comm k 4, valsOf_at l k i hk t ht]
  exact ⟨e 0 (by omega), e 1 (by omega), e 2 (by omega), e 3 (by omega)⟩
theorem valsOf_set (l : List It) (k : Nat) (i : It) (hk : k < l.length) :
    ((((valsOf l).set (k * 4) (.int .i64 i.k)).set (k * 4 + 1) (.int .i64 i.b)).set (k * 4 + 2) (.int .i64 i.c)).set (k * 4 + 3) (.int .i64 i.v) = valsOf (l.set k i) := by
  have e : l = l.take k ++ ([l[k]] ++ l.drop (k + 1)) := by simp
  have e2 : l.set k i = l.take k ++ ([i] ++ l.drop (k + 1)) := by rw [List.set_eq_take_append_cons_drop, if_pos hk]; rfl
  have hl : (valsOf (l.take k)).length = k * 4 := by rw [valsOf_len, List.length_take]; omega
  rw [e2]
  conv => lhs; rw [e]
  generalize l[k] = z
  rw [valsOf_append, valsOf_append, valsOf_append, valsOf_append]
  have hs : ∀ (x : List Value) (t : Nat) (v : Value), (valsOf (l.take k) ++ x).set (k * 4 + t) v = valsOf (l.take k) ++ x.set t v := fun x t v => by
    rw [List.set_append, hl, if_neg (by omega), Nat.add_sub_cancel_left]
  have hs0 := fun x v => hs x 0 v
  simp only [Nat.add_zero] at hs0
  rw [hs0, hs, hs, hs]
  rfl
theorem IBlk.put_at {w : World} {g : Nat} {l : List It} {k : Nat} (i : It) (h : IBlk w g l) (hk : k < l.length) :
    IBlk ((((w.setCell ⟨g, k * 4, none⟩ (.int .i64 i.k)).setCell ⟨g, k * 4 + 1, none⟩ (.int .i64 i.b)).setCell ⟨g, k * 4 + 2, none⟩ (.int .i64 i.c)).setCell ⟨g, k * 4 + 3, none⟩ (.int .i64 i.v)) g (l.set k i) := by
  have h1 := (((Blk.set_ h (k * 4) (.int .i64 i.k)).set_ (k * 4 + 1) (.int .i64 i.b)).set_ (k * 4 + 2) (.int .i64 i.c)).set_ (k * 4 + 3) (.int .i64 i.v)
  unfold IBlk
  rw [← valsOf_set l k i hk]
  simpa using h1
theorem put_kept4 {S : List Nat} {a w : World} {g : Nat} (o : Nat) (i : It) (h : Kept S a w) (hg : g ∈ S ∨ a.heap.size ≤ g) :
    Kept S a ((((w.setCell ⟨g, o, none⟩ (.int .i64 i.k)).setCell ⟨g, o + 1, none⟩ (.int .i64 i.b)).setCell ⟨g, o + 2, none⟩ (.int .i64 i.c)).setCell ⟨g, o + 3, none⟩ (.int .i64 i.v)) :=
  (((h.set_ hg o _).set_ hg (o + 1) _).set_ hg (o + 2) _).set_ hg (o + 3) _
theorem IBlk.items {w : World} {S : List Nat} {g : Nat} {l : List It} (h : IBlk w g l) (hg : g ∉ S) : Items w S (some ⟨g, 0, none⟩) l :=
  Vals.blk 0 h hg (fun i v hv => by rw [Nat.zero_add, List.getElem?_toArray]; exact hv)
theorem set_zero (l : List It) (k m : Nat) (i : It) (hi : l[k]? = some i) (hk : k < m) : (l.take k ++ List.replicate (m - k) It.zero).set k i = l.take (k + 1) ++ List.replicate (m - (k + 1)) It.zero := by
  have hl : (l.take k).length = k := by rw [List.length_take]; have := (List.getElem?_eq_some_iff.1 hi).1; omega
  rw [List.set_append, hl, if_neg (by omega), Nat.sub_self, show m - k = (m - (k + 1)) + 1 by omega, List.replicate_succ, List.set_cons_zero, List.take_add_one, hi]
  simp

theorem item_info : (Try.prog.info? 26).map (fun i => (i.zero, i.size, i.bytes)) = some (some It.zero.val, 4, 32) := by kernel_rfl
theorem run_make_items (m : Nat) (hm : m ≤ 6) (w : World) :
    (Instr.makeSlice 22 (.int .i64 (m : Int)) (.int .i64 (m : Int))).run Try.prog w = .ok (.slice (some ⟨w.heap.size, 0, none⟩) m m) (w.alloc (.cells (madeCells #[.int .i64 0, .int .i64 0, .int .i64 0, .int .i64 0] (m * 4)) 26)) := by
  obtain ⟨i, hi, hzz⟩ := Option.map_eq_some_iff.1 item_info
  simp only [Prod.mk.injEq] at hzz
  obtain ⟨hz, hs, hb⟩ := hzz
  have hr := run_make (P := Try.prog) w 22 26 i _ Try.underlying22 hi hz .i64 .i64 m m (by omega) (Int.le_refl _) (by rw [hb]; omega) (by omega)
  rw [hs, Int.toNat_natCast] at hr
  exact hr

set_option maxRecDepth 100000 in
theorem decode_len_any (A : Option Addr) (n c : Nat) (w : World) (h : n % 7 ≠ 0 ∨ n % 7 = 0 ∧ 42 < n) (hn : n ≤ 65536) :
    Calls Try.prog 15 #[.slice A n c] w fun e w' => e = .returned (.tuple #[.slice none 0 0, .int .i64 2]) ∧ Kept [] w w' := by
  rcases h with h | ⟨h, h2⟩
  · have g1 : ((n : Int) % 7 != 0) = true := by rw [bne_iff_ne]; omega
    clear h
    go_enter Try.func15, Try.ntmps15
    go_wp2
    go_ret2
    exact ⟨rfl, Kept.refl _ _⟩
  · have g1 : ((n : Int) % 7 != 0) = false := by rw [bne_eq_false_iff_eq]; omega
    clear h
    go_enter Try.func15, Try.ntmps15
    go_wp2
    go_ret2
    exact ⟨rfl, Kept.refl _ _⟩

set_option maxRecDepth 100000 in
set_option maxHeartbeats 1000000 in
theorem decode_in (A : Option Addr) (m n c : Nat) (bs : List UInt8) (w : World) (hv : Vals w [] A (bs.map B)) (hl : bs.length = n) (hA : A = none → c = 0) (hn : n = 7 * m) (hm : m ≤ 6) :
    Calls Try.prog 15 #[.slice A n c] w fun e w' => ∃ L n' c', e = .returned (.tuple #[.slice L n' c', .int .i64 (decode bs).2]) ∧ n' = (decode bs).1.length ∧ n' ≤ c' ∧ (L = none → c' = 0) ∧ Items w' [] L (decode bs).1 ∧ Kept [] w w' := by
  have HV := hide hv
  have HL := hide hl
  have HA := hide hA
  have g1 : ((n : Int) % 7 != 0) = false := by rw [bne_eq_false_iff_eq]; omega
  have g2 : (n : Int) / 7 = m := by omega
  have g3 : ¬ (42 : Int) < n := by omega
  obtain ⟨its, hits⟩ : ∃ its, itemsOf bs = its := ⟨_, rfl⟩
  have hil : its.length = m := by rw [← hits, itemsOf_len, hl, hn]; omega
  have HI := hide hits
  have HIL := hide hil
  have HMN := hide hn
  have hn42 : n ≤ 42 := by omega
  clear hv hl hA hits hil hn
  go_enter Try.func15, Try.ntmps15
  go_wp2_with fail
  rw [← HL.out]
  refine (from_at A c bs _ HV.out HA.out (by rw [HL.out]; omega)).mono ?_
  rintro e w1 ⟨p, b, cap, A', rfl, hp, hb, hb1, hr, hk⟩
  rw [HL.out]
  have hbl : 0 < m → b < w1.heap.size := fun h0 => (hr.2.1 (by intro e; have e2 : bs = [] := e; have := HL.out; rw [e2] at this; simp at this; have := HMN.out; omega)).lt
  have hp1 := hr.lt
  have HBL := hide hbl
  have HR1 := hide hr
  have HK1 := hide hk
  have HP := hide hp
  have HB := hide hb
  clear hr hk hp hb hbl
  have hmk := run_make_items m hm w1
  have hib := IBlk.new w1 m
  have hkb := (Kept.refl [] w1).alloc (.cells (madeCells #[.int .i64 0, .int .i64 0, .int .i64 0, .int .i64 0] (m * 4)) 26)
  obtain ⟨w2, hw2⟩ : ∃ w2, w1.alloc (.cells (madeCells #[.int .i64 0, .int .i64 0, .int .i64 0, .int .i64 0] (m * 4)) 26) = w2 := ⟨_, rfl⟩
  obtain ⟨g, hg⟩ : ∃ g, w1.heap.size = g := ⟨_, rfl⟩
  rw [hw2] at hmk hib hkb
  rw [hg] at hmk hib
  have HR2 := hide (HR1.out.kept hkb (by simp) (by simp))
  have HK2 := hide (HK1.out.trans hkb (by simp))
  have HIB2 := hide hib
  have hpg : p < g := by omega
  have HBG := hide (show 0 < m → b ≠ g from fun h0 => by have := HBL.out h0; omega)
  have HWG := hide (show w.heap.size ≤ g by have := HK1.out.size; omega)
  clear hib hkb hw2
  go_wp2
  go_loopw [24, 6] (fun i u wr => ∃ k : Nat, k ≤ m ∧ i = .int .i64 k ∧ Hid (RowAt wr p b cap A' ⟨bs, 7 * k⟩) ∧ Hid (IBlk wr g (its.take k ++ List.replicate (m - k) It.zero)) ∧ Hid (allMay (its.take k)) ∧ Hid (Kept [] w wr)) (fun i u wr => m - (intOf i).toNat)
  case atStart => exact ⟨0, by omega, rfl, HR2, HIB2, hide (by simp [allMay]), HK2⟩
  case round =>
    obtain ⟨k, hk, rfl, HR3, HB3, HM3, HK3⟩ := hrel
    by_cases hlt : k < m
    · obtain ⟨i, hi⟩ : ∃ i, its[k]? = some i := ⟨_, List.getElem?_eq_getElem (by rw [HIL.out]; exact hlt)⟩
      have hia : itAt bs (7 * k) = i := by
        have := itemsOf_at bs k (by rw [HL.out, HMN.out]; omega)
        rw [HI.out, hi] at this
        exact (Option.some.inj this).symm
      have HIK := hide hi
      have HIA := hide hia
      have HLT := hide hlt
      have hpos : 7 * k + 7 ≤ bs.length := by rw [HL.out, HMN.out]; omega
      have HPOS := hide hpos
      have hz : (its.take k ++ List.replicate (m - k) It.zero)[k]? = some It.zero := by
        have hl : (its.take k).length = k := by rw [List.length_take, HIL.out]; omega
        rw [List.getElem?_append_right (by omega), hl, Nat.sub_self, List.getElem?_replicate, if_pos (by omega)]
      have HZ := hide hz
      have hll : (its.take k ++ List.replicate (m - k) It.zero).length = m := by rw [List.length_append, List.length_take, List.length_replicate, HIL.out]; omega
      have HLL := hide hll
      clear hi hia hpos hz hll
      go_wp2_with fail
      refine (read_any p b cap A' bs (7 * k) i _ HR3.out HPOS.out HIA.out).mono ?_
      rintro e w4 ⟨rfl, hr, hk4⟩
      have HR4 := hide hr
      have HB4 : Hid (IBlk w4 g (its.take k ++ List.replicate (m - k) It.zero)) := hide (hk4.blk HB3.out (by simp; omega))
      have HK4 := hide (HK3.out.trans hk4 (by have := HP.out; simp; omega))
      clear hr hk4
      obtain ⟨d0, d1, d2, d3⟩ := HB4.out.at_ HZ.out
      have f0 := Blk.frozen HB4.out (k * 4)
      have f1 := Blk.frozen HB4.out (k * 4 + 1)
      have f2 := Blk.frozen HB4.out (k * 4 + 2)
      have f3 := Blk.frozen HB4.out (k * 4 + 3)
      have HB5 := hide (HB4.out.put_at i (by rw [HLL.out]; exact HLT.out))
      have HK5 := hide (put_kept4 (k * 4) i HK4.out (g := g) (.inr HWG.out))
      have hk45 := put_kept4 (k * 4) i (Kept.refl [g] w4) (g := g) (.inl (by simp))
      have HR5 := hide (HR4.out.kept hk45 (by simp; omega) (by have := HBG.out (by omega); simp [this]))
      rw [set_zero its k m i HIK.out HLT.out] at HB5
      clear hk45
      unfold It.val
      go_wp2_with fail
      generalize ((((w4.setCell ⟨g, k * 4, none⟩ (.int .i64 i.k)).setCell ⟨g, k * 4 + 1, none⟩ (.int .i64 i.b)).setCell ⟨g, k * 4 + 2, none⟩ (.int .i64 i.c)).setCell ⟨g, k * 4 + 3, none⟩ (.int .i64 i.v)) = w5 at HB5 HK5 HR5 ⊢
      clear d0 d1 d2 d3 f0 f1 f2 f3 HB4 HK4 HR4 HB3 HK3 HR3
      refine (may_any i _).mono ?_
      rintro e w6 ⟨rfl, hk⟩
      have HR6 := hide (HR5.out.kept hk (by simp) (by simp))
      have HB6 : Hid (IBlk w6 g (its.take (k + 1) ++ List.replicate (m - (k + 1)) It.zero)) := hide (hk.blk HB5.out (by simp))
      have HK6 := hide (HK5.out.trans hk (by simp))
      clear hk HB5 HR5 HK5
      by_cases hm : i.may = true
      · rw [hm]
        have hM : allMay (its.take (k + 1)) := by
          have := allMay_snoc _ i HM3.out hm
          rw [List.take_add_one, HIK.out]
          exact this
        have HM := hide hM
        clear hm hM
        go_wp2
        go_roundw
        case rel => exact ⟨k + 1, by omega, by go_num, HR6, HB6, HM, HK6⟩
        case measure => simp [intOf]; omega
      · have hm' := (Bool.not_eq_true _).mp hm
        rw [hm']
        have HE : Hid (decode bs = ([], 2)) := hide (if_neg (fun hn => by
          have := hn.2 i (by rw [HI.out]; exact List.mem_of_getElem? HIK.out)
          exact hm this))
        clear hm hm'
        go_wp2
        go_ret2
        rw [HE.out]
        exact ⟨none, 0, 0, rfl, rfl, Nat.le_refl _, fun _ => rfl, Items.nil _ _ _, HK6.out⟩
    · obtain rfl : k = m := by omega
      have hfull : its.take k = its := List.take_of_length_le (by rw [HIL.out]; exact Nat.le_refl _)
      rw [hfull] at HM3 HB3
      rw [Nat.sub_self, List.replicate_zero, List.append_nil] at HB3
      have HE : Hid (decode bs = (its, 0)) := hide (by
        unfold decode
        rw [HI.out, if_pos ⟨⟨by rw [HL.out, HMN.out]; omega, by rw [HL.out]; exact hn42⟩, HM3.out⟩])
      clear hfull
      go_wp2
      go_ret2
      rw [HE.out]
      exact ⟨some ⟨g, 0, none⟩, k, k, rfl, HIL.out.symm, Nat.le_refl _, by simp, HB3.out.items (by simp), HK3.out⟩

theorem decode_any (A : Option Addr) (n c : Nat) (bs : List UInt8) (w : World) (hv : Vals w [] A (bs.map B)) (hl : bs.length = n) (hA : A = none → c = 0) (hn : n ≤ 65536) :
    Calls Try.prog 15 #[.slice A n c] w fun e w' => ∃ L n' c', e = .returned (.tuple #[.slice L n' c', .int .i64 (decode bs).2]) ∧ n' = (decode bs).1.length ∧ n' ≤ c' ∧ (L = none → c' = 0) ∧ Items w' [] L (decode bs).1 ∧ Kept [] w w' := by
  by_cases h7 : n % 7 = 0
  · by_cases h42 : n ≤ 42
    · exact decode_in A (n / 7) n c bs w hv hl hA (by omega) (by omega)
    · have e : decode bs = ([], 2) := if_neg (fun h => by have := h.1.2; omega)
      rw [e]
      exact (decode_len_any A n c w (.inr ⟨h7, by omega⟩) hn).mono fun _ _ ⟨h1, h3⟩ => ⟨none, 0, 0, h1, rfl, Nat.le_refl _, fun _ => rfl, Items.nil _ _ _, h3⟩
  · have e : decode bs = ([], 2) := decode_odd bs (by rw [hl]; exact h7)
    rw [e]
    exact (decode_len_any A n c w (.inl h7) hn).mono fun _ _ ⟨h1, h3⟩ => ⟨none, 0, 0, h1, rfl, Nat.le_refl _, fun _ => rfl, Items.nil _ _ _, h3⟩
end Go.Proofs.Ytbghkfjjmgmjmaa.item
