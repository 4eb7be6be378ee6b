import Derived.Test.YtolbalafhfpjbaaGreatPWriterTurn
import Derived.Test.YtolbalafhfpjbaaGreatPItemOf
namespace Go.Proofs.YtolbalafhfpjbaaGreat.wr
set_option linter.unusedSimpArgs false
set_option linter.unusedVariables false
open Go.RowKit mem base disk owns geom
open sc (Ps Seal sealed Reads putk)
open us (Rw inState TAt IsT backOf grabOf shutOf touchOf)
open item (It Items valsOf allMay item_info oneCell_It)
open record (Rc RcAt cell5 put5 put5_kept)
theorem info8w : (Tryz.prog.info? 5).map (fun i => (i.zero, i.size, i.bytes)) = some (some (.int .u8 0), 1, 1) := by kernel_rfl
def heldAt (r q l : Int) (p : Ps) (its : List It) (i : It) : Int := if i.loaded = true then 2 + 2 * r + 4 * q + p.s * l + offOf p + 1 + (record.count its : Int) else 0
theorem hold_pl {s l r q : Int} {p : Ps} {its : List It} {bl : List UInt8} {D : Dk} (h : Pl s l r q p its bl D) (i : It) (bb : List UInt8) (hi : i.may = true) (hn : its.length < 6) (hb : bb.length = if i.loaded = true then 64 else 0) (hr : offOf p + 1 + (record.count its + (if i.loaded = true then 1 else 0)) ≤ l - 1) : Pl s l r q p (its ++ [i]) (bl ++ bb) D := by
 have hc : record.count (its ++ [i]) = record.count its + (if i.loaded = true then 1 else 0) := by
  unfold record.count
  rw [List.filter_append, List.length_append]
  cases hl : i.loaded <;> simp [hl]
 refine ⟨h.place, h.off, h.lsn, h.prev, h.mount, ⟨item.allMay_snoc its i h.may.1 hi, by rw [List.length_append]; simp; omega⟩, ?_, fun _ => ?_, h.reads, h.fits, h.acts⟩
 ·rw [List.length_append, h.cnt, hb, hc]
  cases i.loaded <;> simp <;> omega
 ·rw [hc]
  cases hl : i.loaded
  ·rw [hl] at hr; simp at hr ⊢; omega
  ·rw [hl] at hr; simp at hr ⊢; omega
theorem hold_end {base v d g tp V : Nat} {F : List Nat} {b s l r q : Int} {D : Dk} {T : List Rw} {p : Ps} {its : List It} {bl : List UInt8} {A : Option Addr} {c : Nat} {H : Option Addr} {e : Nat} {i : It} {nb : Nat} {bb : List UInt8} {w wd wb we wf : World} {g1 c1 : Nat} {H2 : Option Addr} {e2 : Nat}
  (h : Ws w base v d g tp V F b s l r q D T p its bl A c H e) (hPL : Pl s l r q p (its ++ [i]) (bl ++ bb) D) (hnb : bb.length = nb) (kd : Kept [] w wd) (kb : Kept [] wd wb)
  (o1 : we.ownsRow base 84 4 (.slice (some ⟨g1, 0, none⟩) (its.length + 1) c1) (its.length + 1) (valsOf its ++ i.vals)) (ke : Kept (Value.slice A its.length c).ownBlock.toList wb we)
  (a1 : (Value.slice (some ⟨g1, 0, none⟩) (its.length + 1) c1).ownBlock = (Value.slice A its.length c).ownBlock ∨ (Value.slice (some ⟨g1, 0, none⟩) (its.length + 1) c1).ownBlock = some wb.heap.size)
  (o2 : wf.ownsRow base 5 1 (.slice H2 (bl.length + nb) e2) (bl.length + nb) (bl.map B ++ bb.map B)) (kf : Kept (Value.slice H bl.length e).ownBlock.toList we wf)
  (a2 : (Value.slice H2 (bl.length + nb) e2).ownBlock = (Value.slice H bl.length e).ownBlock ∨ (Value.slice H2 (bl.length + nb) e2).ownBlock = some we.heap.size) :
  Ws ((wf.setCell ⟨v, 8, none⟩ (.slice (some ⟨g1, 0, none⟩) (its.length + 1) c1)).setCell ⟨v, 9, none⟩ (.slice H2 (bl.length + nb) e2)) base v d g tp V F b s l r q D T p (its ++ [i]) (bl ++ bb) (some ⟨g1, 0, none⟩) c1 H2 e2 ∧
  Kept (v :: ((Value.slice A its.length c).ownBlock.toList ++ (Value.slice H bl.length e).ownBlock.toList)) w ((wf.setCell ⟨v, 8, none⟩ (.slice (some ⟨g1, 0, none⟩) (its.length + 1) c1)).setCell ⟨v, 9, none⟩ (.slice H2 (bl.length + nb) e2)) ∧
  (∀ j ∈ (Value.slice (some ⟨g1, 0, none⟩) (its ++ [i]).length c1).ownBlock.toList, j ∈ (Value.slice A its.length c).ownBlock.toList ∨ w.heap.size ≤ j) ∧ (∀ j ∈ (Value.slice H2 (bl ++ bb).length e2).ownBlock.toList, j ∈ (Value.slice H bl.length e).ownBlock.toList ∨ w.heap.size ≤ j) := by
 have hL1 : (its ++ [i]).length = its.length + 1 := by simp
 have hL2 : (bl ++ bb).length = bl.length + nb := by rw [List.length_append, hnb]
 have kx : Kept [v] wf ((wf.setCell ⟨v, 8, none⟩ (.slice (some ⟨g1, 0, none⟩) (its.length + 1) c1)).setCell ⟨v, 9, none⟩ (.slice H2 (bl.length + nb) e2)) := ((Kept.refl [v] wf).set_ (b := v) (.inl (by simp)) 8 _).set_ (b := v) (.inl (by simp)) 9 _
 have hA : ∀ i ∈ (Value.slice A its.length c).ownBlock.toList, i < w.heap.size := fun j hj => (own_blk h.own j hj).2.1
 have hB : ∀ i ∈ (Value.slice H bl.length e).ownBlock.toList, i < w.heap.size := fun j hj => (own_blk h.byt j hj).2.1
 have s1 := kd.size
 have s2 := kb.size
 have s3 := ke.size
 have v1 := h.at_.lt
 have v2 := h.tab.tab.lt
 have v3 := h.tab.seg.lt
 have v4 := h.geo.lt
 have hAB := own_apart h.own h.byt (by decide)
 have n1 : ∀ j ∈ (Value.slice (some ⟨g1, 0, none⟩) (its.length + 1) c1).ownBlock.toList, (j ∈ (Value.slice A its.length c).ownBlock.toList) ∨ w.heap.size ≤ j := fun j hj => a1.elim (fun hh => .inl (by rw [← hh]; exact hj)) (fun hh => .inr (by rw [hh] at hj; simp at hj; omega))
 have n2 : ∀ j ∈ (Value.slice H2 (bl.length + nb) e2).ownBlock.toList, (j ∈ (Value.slice H bl.length e).ownBlock.toList) ∨ w.heap.size ≤ j := fun j hj => a2.elim (fun hh => .inl (by rw [← hh]; exact hj)) (fun hh => .inr (by rw [hh] at hj; simp at hj; omega))
 have sp1 : ∀ j ∈ (Value.slice (some ⟨g1, 0, none⟩) (its.length + 1) c1).ownBlock.toList, j ∉ F ∧ j ≠ v ∧ j ≠ V ∧ j ≠ tp ∧ j ≠ g := fun j hj => (n1 j hj).elim (fun hh => h.sepA j hh) (fun hh => ⟨fun hm => by have := h.vd.lt j hm; omega, by omega, by omega, by omega, by omega⟩)
 have sp2 : ∀ j ∈ (Value.slice H2 (bl.length + nb) e2).ownBlock.toList, j ∉ F ∧ j ≠ v ∧ j ≠ V ∧ j ≠ tp ∧ j ≠ g := fun j hj => (n2 j hj).elim (fun hh => h.sepB j hh) (fun hh => ⟨fun hm => by have := h.vd.lt j hm; omega, by omega, by omega, by omega, by omega⟩)
 have kall : ∀ (x : Nat), (x ∉ (Value.slice A its.length c).ownBlock.toList ∧ x ∉ (Value.slice H bl.length e).ownBlock.toList) → True := fun _ _ => trivial
 have gn : ∀ x, (x = g ∨ x = tp ∨ x = V ∨ x = v ∨ x ∈ F) → x ∉ (Value.slice A its.length c).ownBlock.toList ∧ x ∉ (Value.slice H bl.length e).ownBlock.toList := fun x hx => by
  refine ⟨fun hm => ?_, fun hm => ?_⟩
  ·obtain ⟨h1, h2, h3, h4, h5⟩ := h.sepA x hm
   rcases hx with rfl | rfl | rfl | rfl | hx
   ·exact h5 rfl
   ·exact h4 rfl
   ·exact h3 rfl
   ·exact h2 rfl
   ·exact h1 hx
  ·obtain ⟨h1, h2, h3, h4, h5⟩ := h.sepB x hm
   rcases hx with rfl | rfl | rfl | rfl | hx
   ·exact h5 rfl
   ·exact h4 rfl
   ·exact h3 rfl
   ·exact h2 rfl
   ·exact h1 hx
 have hsv := h.sep
 have kw : Kept (v :: ((Value.slice A its.length c).ownBlock.toList ++ (Value.slice H bl.length e).ownBlock.toList)) w wf := ((((kd.trans kb (by simp)).mono (S' := v :: ((Value.slice A its.length c).ownBlock.toList ++ (Value.slice H bl.length e).ownBlock.toList)) (by simp)).trans ke (fun j hj => .inl (List.mem_cons_of_mem _ (List.mem_append_left _ hj)))).trans kf (fun j hj => .inl (List.mem_cons_of_mem _ (List.mem_append_right _ hj))))
 have hatf : WAt wf v d g tp p A its.length c H bl.length e := ((h.at_.keep (kd.trans kb (by simp))).kept ke (gn v (by simp)).1).kept kf (gn v (by simp)).2
 refine ⟨⟨?_, ?_, ?_, ?_, ?_, ?_, h.sep, h.gV, ?_, ?_, hPL⟩, kw.trans kx (fun j hj => .inl (by simp at hj; simp [hj])), by rw [hL1]; exact n1, by rw [hL2]; exact n2⟩
 ·rw [hL1, hL2]
  exact Blk.set_ (Blk.set_ hatf 8 _) 9 _
 ·exact (((h.geo.kept (kd.trans kb (by simp))).kept ke (gn g (by simp)).1).kept kf (gn g (by simp)).2).kept kx (by simpa using fun ee => hsv.2.2.2.2.2.2 ee.symm)
 ·exact (((h.vd.kept (kd.trans kb (by simp)) (by simp)).kept ke (fun x hx hm => (gn x (by simp [hx])).1 hm)).kept kf (fun x hx hm => (gn x (by simp [hx])).2 hm)).kept kx (fun x hx hm => by simp at hm; subst hm; exact hsv.1 hx)
 ·exact (((h.tab.keep (kd.trans kb (by simp))).kept ke (gn tp (by simp)).1 (gn V (by simp)).1).kept kf (gn tp (by simp)).2 (gn V (by simp)).2).kept kx (by simpa using fun ee => hsv.2.2.2.2.2.1 ee.symm) (by simpa using fun ee => hsv.2.2.2.2.1 ee.symm)
 ·rw [hL1, item.valsOf_snoc]
  exact own_keep (own_keep o1 kf (fun j hj hm => (n1 j hm).elim (fun hh => hAB j hh hj) (fun hh => by have := hB j hj; omega))) kx (fun j hj hm => (sp1 j hm).2.1 (by simpa using hj))
 ·rw [hL2, List.map_append]
  exact own_keep o2 kx (fun j hj hm => (sp2 j hm).2.1 (by simpa using hj))
 ·rw [hL1]; exact sp1
 ·rw [hL2]; exact sp2
set_option maxRecDepth 100000 in
set_option maxHeartbeats 2000000 in
theorem hold_any (base v d g tp V : Nat) (F : List Nat) (b s l r q : Int) (D : Dk) (T : List Rw) (p : Ps) (its : List It) (bl : List UInt8) (A : Option Addr) (c : Nat) (H : Option Addr) (e : Nat) (i : It) (Bp : Option Addr) (nb cb : Nat) (bb : List UInt8) (w : World) (h : Ws w base v d g tp V F b s l r q D T p its bl A c H e)
  (hbase : base ≤ w.heap.size) (hi : i.may = true) (hn : its.length < 6) (hb : bb.length = if i.loaded = true then 64 else 0) (hnb : bb.length = nb) (hr : offOf p + 1 + (record.count its + (if i.loaded = true then 1 else 0)) ≤ l - 1) (hv : Vals w (Value.slice A its.length c).ownBlock.toList Bp (bb.map B)) :
  Calls Tryz.prog 105 #[.pointer (some ⟨v, 0, none⟩), i.val, .slice Bp nb cb] w fun ex w' => ex = .returned (.int .i64 (heldAt r q l p its i)) ∧
   ∃ A' c' H' e', Ws w' base v d g tp V F b s l r q D T p (its ++ [i]) (bl ++ bb) A' c' H' e' ∧ Kept (v :: ((Value.slice A its.length c).ownBlock.toList ++ (Value.slice H bl.length e).ownBlock.toList)) w w' ∧ (∀ j ∈ (Value.slice A' (its ++ [i]).length c').ownBlock.toList, j ∈ (Value.slice A its.length c).ownBlock.toList ∨ w.heap.size ≤ j) ∧ (∀ j ∈ (Value.slice H' (bl ++ bb).length e').ownBlock.toList, j ∈ (Value.slice H bl.length e).ownBlock.toList ∨ w.heap.size ≤ j) := by
 have hPL := hold_pl h.pl i bb hi hn hb hr
 obtain ⟨z, hz⟩ : ∃ z, w.heap.size = z := ⟨_, rfl⟩
 obtain ⟨w0, hw0⟩ : ∃ w0, w.alloc (.cells #[.int .i64 i.k, .int .i64 i.b, .int .i64 i.c, .int .i64 i.v] 84) = w0 := ⟨_, rfl⟩
 have hk0 : Kept [] w w0 := by rw [← hw0]; exact (Kept.refl [] w).alloc _
 have hb0 : Blk w0 z 84 #[.int .i64 i.k, .int .i64 i.b, .int .i64 i.c, .int .i64 i.v] := by rw [← hw0, ← hz]; exact Blk.new w _ _
 obtain ⟨i0, i1, i2, i3⟩ : w0.cell? ⟨z, 0, none⟩ = some (.int .i64 i.k) ∧ w0.cell? ⟨z, 1, none⟩ = some (.int .i64 i.b) ∧ w0.cell? ⟨z, 2, none⟩ = some (.int .i64 i.c) ∧ w0.cell? ⟨z, 3, none⟩ = some (.int .i64 i.v) := ⟨hb0.cell 0, hb0.cell 1, hb0.cell 2, hb0.cell 3⟩
 have HB := hide hb0
 have HK := hide hk0
 have HS := hide h
 have HPL := hide hPL
 have HV := hide hv
 have HNB := hide hnb
 have HBASE := hide hbase
 have HL := hide (fun W => item.loaded_any i W)
 have HVALS := hide (show i.vals = [.int .i64 i.k, .int .i64 i.b, .int .i64 i.c, .int .i64 i.v] from rfl)
 have h6 := h.pl.bds
 have HLEN := hide (show bl.length ≤ 384 ∧ nb ≤ 64 from ⟨by have := h.pl.cnt; omega, by rw [← hnb, hb]; split <;> omega⟩)
 unfold It.val at HL ⊢
 obtain ⟨ld, hld⟩ : ∃ ld, i.loaded = ld := ⟨_, rfl⟩
 obtain ⟨ha, hha⟩ : ∃ ha, heldAt r q l p its i = ha := ⟨_, rfl⟩
 have HHA := hide (show ha = if ld = true then 2 + 2 * r + 4 * q + p.s * l + offOf p + 1 + (record.count its : Int) else 0 from by rw [← hha, ← hld]; rfl)
 rw [hld] at HL
 rw [hha]
 have hok := h.geo.ok
 unfold Ok at hok
 have hoff := h.pl.off
 have HBO := hide (show 0 ≤ p.o ∧ p.o ≤ 1000 by omega)
 clear h hPL hk0 hb0 hv hnb hbase hi hb hr hld hha hok hoff
 go_enter Tryz.func105, Tryz.ntmps105
 go_wp2_with fail
 refine (HL.out _).mono ?_
 rintro e1 w1 ⟨rfl, hk1⟩
 have HK1 := hide (HK.out.trans hk1 (by simp))
 have HB1 := hide (hk1.blk HB.out (by simp))
 clear hk1 HK HB i0 i1 i2 i3 HL
 go_upto_if 9 with fail
 go_cut [7] from 8 to 13 (fun p7 wx => p7 = .int .i64 ha ∧ Hid (Kept [] w1 wx))
 case first =>
  cases ld
  ·go_wp2_with fail
   go_meet
   exact ⟨by rw [HHA.out]; rfl, hide (Kept.refl [] _)⟩
  ·go_wp2_with fail
   refine (blocks_any v d g tp _ _ _ _ (record.count its) p A H _ (HS.out.at_.keep HK1.out) HS.out.pl.cnt (by omega)).mono ?_
   rintro e1 w2 ⟨rfl, rfl⟩
   go_wp2_with fail
   refine (block_any v d g tp _ _ _ _ p A H b s l r q (record.count its : Int) _ (HS.out.at_.keep HK1.out) (HS.out.geo.kept HK1.out) HS.out.pl.place HBO.out (by omega)).mono ?_
   rintro e1 w2 ⟨rfl, hk2⟩
   have HK2 := hide hk2
   clear hk2
   go_wp2_with fail
   go_meet
   exact ⟨by rw [HHA.out]; rfl, HK2⟩
 case rest =>
  obtain ⟨rfl, HKC⟩ := hcut
  have HKD := hide (HK1.out.trans ((Kept.refl [] w1).trans HKC.out (by simp)) (by simp))
  obtain ⟨wd, hwd⟩ : ∃ wd, wc.drew = wd := ⟨_, rfl⟩
  have hkd : Kept [] wc wd := by rw [← hwd]; exact (Kept.refl [] wc).drew
  have HKW := hide (HKD.out.trans hkd (by simp))
  have hbz := (HKC.out.trans hkd (by simp)).blk HB1.out (by simp)
  obtain ⟨i0, i1, i2, i3⟩ : wd.cell? ⟨z, 0, none⟩ = some (.int .i64 i.k) ∧ wd.cell? ⟨z, 1, none⟩ = some (.int .i64 i.b) ∧ wd.cell? ⟨z, 2, none⟩ = some (.int .i64 i.c) ∧ wd.cell? ⟨z, 3, none⟩ = some (.int .i64 i.v) := ⟨hbz.cell 0, hbz.cell 1, hbz.cell 2, hbz.cell 3⟩
  obtain ⟨q8, q9⟩ := (HS.out.at_.keep HKW.out).rows
  have HATd := hide (HS.out.at_.keep HKW.out)
  have HOd := hide (own_keep HS.out.own HKW.out (by simp))
  have HBd := hide (own_keep HS.out.byt HKW.out (by simp))
  have HVd := hide (HV.out.kept HKW.out (by simp))
  have hsA := HS.out.sepA
  have hsB := HS.out.sepB
  have hAB := own_apart HS.out.own HS.out.byt (by decide)
  have hzw : w.heap.size ≤ wd.heap.size := HKW.out.size
  have hvA : v ∉ (Value.slice A its.length c).ownBlock.toList := fun hm => (hsA v hm).2.1 rfl
  have hvB : v ∉ (Value.slice H bl.length e).ownBlock.toList := fun hm => (hsB v hm).2.1 rfl
  clear hbz hkd
  go_wp2
  go_cut [] from 14 to 33 (fun wx => ∃ A' c' H' e', Hid (Ws wx base v d g tp V F b s l r q D T p (its ++ [i]) (bl ++ bb) A' c' H' e') ∧ Hid (Kept (v :: ((Value.slice A its.length c).ownBlock.toList ++ (Value.slice H bl.length e).ownBlock.toList)) w wx) ∧ Hid ((∀ j ∈ (Value.slice A' (its ++ [i]).length c').ownBlock.toList, j ∈ (Value.slice A its.length c).ownBlock.toList ∨ w.heap.size ≤ j) ∧ (∀ j ∈ (Value.slice H' (bl ++ bb).length e').ownBlock.toList, j ∈ (Value.slice H bl.length e).ownBlock.toList ∨ w.heap.size ≤ j)))
  case first =>
   refine wp_region_noPanic ?_
   refine wp_region_held_drew (S := fun _ => True) (by kernel_rfl) (by trivial) (fun hHeld => ?_)
   refine tK 0 14 rfl ?_
   try simp only [Act.put, pA, pB, pC]
   refine tK 1 15 rfl ?_
   try simp only [Act.put, pA, pB, pC]
   refine tK 2 16 rfl ?_
   try simp only [Act.put, pA, pB, pC]
   refine tK 3 17 rfl ?_
   try simp only [Act.put, pA, pB, pC]
   refine tK 4 18 rfl ?_
   try simp only [Act.put, pA, pB, pC]
   refine tK 9 23 rfl ?_
   try simp only [Act.put, pA, pB, pC]
   refine tK 10 24 rfl ?_
   try simp only [Act.put, pA, pB, pC]
   refine tK 11 25 rfl ?_
   try simp only [Act.put, pA, pB, pC]
   refine tK 13 27 rfl ?_
   try simp only [Act.put, pA, pB, pC]
   refine next_three (i := 5) (j := 6) (l := 12) (o := ⟨some 19, _, _, _, _, _⟩) (o' := ⟨some 20, _, _, _, _, _⟩) (o'' := ⟨some 26, _, _, _, _, _⟩) (by kernel_rfl) rfl (by rfl) rfl (by rfl) rfl (by rfl) (fun K hK => ?_) (fun K hK => ?_) (fun K hK => ?_)
   ·(try rw [hwd])
    go_simp
    refine hK _ _ (by exact trivial) ?_
    have hHeld := trivial
    clear hK K
    try simp only [Act.put, pA, pB, pC]
    refine next_two (i := 6) (j := 12) (o := ⟨some 20, _, _, _, _, _⟩) (o' := ⟨some 26, _, _, _, _, _⟩) (by kernel_rfl) rfl (by rfl) rfl (by rfl) (fun K hK => ?_) (fun K hK => ?_)
    ·(try rw [hwd])
     go_simp
     refine hK _ _ (by exact trivial) ?_
     have hHeld := trivial
     clear hK K
     try simp only [Act.put, pA, pB, pC]
     refine next_two (i := 7) (j := 12) (o := ⟨some 21, _, _, _, _, _⟩) (o' := ⟨some 26, _, _, _, _, _⟩) (by kernel_rfl) rfl (by rfl) rfl (by rfl) (fun K hK => ?_) (fun K hK => ?_)
     ·(try rw [hwd])
      go_simp
      obtain ⟨wb, hwb⟩ : ∃ wb, wd.alloc (.cells #[.int .i64 i.k, .int .i64 i.b, .int .i64 i.c, .int .i64 i.v] 84) = wb := ⟨_, rfl⟩
      have hkb : Kept [] wd wb := by rw [← hwb]; exact (Kept.refl [] wd).alloc _
      have hvl : Vals wb [] (some ⟨wd.heap.size, 0, none⟩) i.vals := by rw [← hwb]; exact Vals.lit wd [] _ _ (0, 0) _ rfl (by simp)
      rw [hwb]
      have HVL := hide hvl
      have q9b := hkb.cell q9 (by simp)
      have q8b := hkb.cell q8 (by simp)
      have HKB := hide hkb
      clear hkb hvl hwb
      refine hK _ _ (by exact trivial) ?_
      have hHeld := trivial
      clear hK K
      try simp only [Act.put, pA, pB, pC]
      refine next_two (i := 8) (j := 12) (o := ⟨some 22, _, _, _, _, _⟩) (o' := ⟨some 26, _, _, _, _, _⟩) (by kernel_rfl) rfl (by rfl) rfl (by rfl) (fun K hK => ?_) (fun K hK => ?_)
      ·refine wp_append_vals (.tmp 19) (.tmp 21) 105 rfl base 84 item.It.zero.val 4 32 Tryz.underlying105 item_info rfl (by omega) (.slice A its.length c) its.length (valsOf its) rfl (own_keep HOd.out HKB.out (by simp)) [] _ 1 1 i.vals rfl rfl HVL.out (oneCell_It i) (by simp only [maxLen]; omega) (by omega) (by have h1 := HBASE.out; have h2 := HKB.out.size; omega) ?_
       intro v1 we hown1 hk1 hat1
       obtain ⟨g1, c1, rfl⟩ := ownsRow_succ hown1
       have q9c := hk1.cell q9b hvA
       have HOWN1 := hide hown1
       have HKE := hide hk1
       have HAT1 := hide hat1
       clear hown1 hk1 hat1
       try simp only [Act.put, pA, pB, pC]
       refine hK _ _ (by exact trivial) ?_
       have hHeld := trivial
       clear hK K
       try simp only [Act.put, pA, pB, pC]
       refine hO 12 (some 26) rfl fun K hK => ?_
       (try rw [hwd])
       go_simp
       refine hK.out _ _ (by exact trivial) (fun hHeld => ?_)
       clear hK K
       try simp only [Act.put, pA, pB, pC]
       refine hO 14 (some 28) rfl fun K hK => ?_
       refine wp_append_vals (.tmp 26) (.tmp 27) 41 rfl base 5 (.int .u8 0) 1 1 Tryz.underlying41 info8w rfl (by omega) (.slice H bl.length e) bl.length (bl.map B) rfl (own_keep (own_keep HBd.out HKB.out (by simp)) HKE.out (fun j hj hm => hAB j hj hm)) [] Bp nb cb (bb.map B) rfl (by rw [List.length_map, HNB.out, Nat.mul_one]) (((HVd.out.kept HKB.out (by simp)).kept HKE.out (fun j hj => hj)).mono (by simp)) (by intro u hu; obtain ⟨y, _, rfl⟩ := List.mem_map.1 hu; rfl) (by simp only [maxLen]; have := HLEN.out; omega) (by have := HLEN.out; omega) (by have h1 := HBASE.out; have h2 := HKB.out.size; have h3 := HKE.out.size; omega) ?_
       intro v2 wf hown2 hk2 hat2
       obtain ⟨H2, e2, rfl, _⟩ := own_slice hown2
       have HOWN2 := hide hown2
       have HKF := hide hk2
       have HAT2 := hide hat2
       have HATf := hide (((HATd.out.keep HKB.out).kept HKE.out hvA).kept hk2 hvB)
       have fzf := Blk.frozen HATf.out
       obtain ⟨s8, s9⟩ := HATf.out.rows
       clear hown2 hk2 hat2
       try simp only [Act.put, pA, pB, pC]
       refine hK.out _ _ (by exact trivial) (fun hHeld => ?_)
       clear hK K
       try simp only [Act.put, pA, pB, pC]
       refine tK 15 29 rfl ?_
       try simp only [Act.put, pA, pB, pC]
       refine tK 16 30 rfl ?_
       try simp only [Act.put, pA, pB, pC]
       refine hO 17 none rfl fun K hK => ?_
       go_simp
       refine hK.out _ _ (by exact trivial) (fun hHeld => ?_)
       clear hK K
       try simp only [Act.put, pA, pB, pC]
       refine tK 18 31 rfl ?_
       try simp only [Act.put, pA, pB, pC]
       refine tK 19 32 rfl ?_
       try simp only [Act.put, pA, pB, pC]
       refine hO 20 none rfl fun K hK => ?_
       go_simp
       refine hK.out _ _ (by exact trivial) (fun hHeld => ?_)
       clear hK K
       try simp only [Act.put, pA, pB, pC]
       refine wpAnyH_done (by kernel_rfl) ?_ _
       refine NoPanic.normal ?_
       have hend := hold_end HS.out HPL.out HNB.out HKW.out HKB.out HOWN1.out HKE.out HAT1.out HOWN2.out HKF.out HAT2.out
       go_wp2_with fail
       go_meet
       exact ⟨_, _, _, _, hide hend.1, hide hend.2.1, hide hend.2.2⟩
      ·(try rw [hwd])
       go_simp
       refine hK _ _ (by exact trivial) ?_
       have hHeld := trivial
       clear hK K
       try simp only [Act.put, pA, pB, pC]
       refine hO 8 (some 22) rfl fun K hK => ?_
       refine wp_append_vals (.tmp 19) (.tmp 21) 105 rfl base 84 item.It.zero.val 4 32 Tryz.underlying105 item_info rfl (by omega) (.slice A its.length c) its.length (valsOf its) rfl (own_keep HOd.out HKB.out (by simp)) [] _ 1 1 i.vals rfl rfl HVL.out (oneCell_It i) (by simp only [maxLen]; omega) (by omega) (by have h1 := HBASE.out; have h2 := HKB.out.size; omega) ?_
       intro v1 we hown1 hk1 hat1
       obtain ⟨g1, c1, rfl⟩ := ownsRow_succ hown1
       have q9c := hk1.cell q9b hvA
       have HOWN1 := hide hown1
       have HKE := hide hk1
       have HAT1 := hide hat1
       clear hown1 hk1 hat1
       try simp only [Act.put, pA, pB, pC]
       refine hK.out _ _ (by exact trivial) (fun hHeld => ?_)
       clear hK K
       try simp only [Act.put, pA, pB, pC]
       refine hO 14 (some 28) rfl fun K hK => ?_
       refine wp_append_vals (.tmp 26) (.tmp 27) 41 rfl base 5 (.int .u8 0) 1 1 Tryz.underlying41 info8w rfl (by omega) (.slice H bl.length e) bl.length (bl.map B) rfl (own_keep (own_keep HBd.out HKB.out (by simp)) HKE.out (fun j hj hm => hAB j hj hm)) [] Bp nb cb (bb.map B) rfl (by rw [List.length_map, HNB.out, Nat.mul_one]) (((HVd.out.kept HKB.out (by simp)).kept HKE.out (fun j hj => hj)).mono (by simp)) (by intro u hu; obtain ⟨y, _, rfl⟩ := List.mem_map.1 hu; rfl) (by simp only [maxLen]; have := HLEN.out; omega) (by have := HLEN.out; omega) (by have h1 := HBASE.out; have h2 := HKB.out.size; have h3 := HKE.out.size; omega) ?_
       intro v2 wf hown2 hk2 hat2
       obtain ⟨H2, e2, rfl, _⟩ := own_slice hown2
       have HOWN2 := hide hown2
       have HKF := hide hk2
       have HAT2 := hide hat2
       have HATf := hide (((HATd.out.keep HKB.out).kept HKE.out hvA).kept hk2 hvB)
       have fzf := Blk.frozen HATf.out
       obtain ⟨s8, s9⟩ := HATf.out.rows
       clear hown2 hk2 hat2
       try simp only [Act.put, pA, pB, pC]
       refine hK.out _ _ (by exact trivial) (fun hHeld => ?_)
       clear hK K
       try simp only [Act.put, pA, pB, pC]
       refine tK 15 29 rfl ?_
       try simp only [Act.put, pA, pB, pC]
       refine tK 16 30 rfl ?_
       try simp only [Act.put, pA, pB, pC]
       refine hO 17 none rfl fun K hK => ?_
       go_simp
       refine hK.out _ _ (by exact trivial) (fun hHeld => ?_)
       clear hK K
       try simp only [Act.put, pA, pB, pC]
       refine tK 18 31 rfl ?_
       try simp only [Act.put, pA, pB, pC]
       refine tK 19 32 rfl ?_
       try simp only [Act.put, pA, pB, pC]
       refine hO 20 none rfl fun K hK => ?_
       go_simp
       refine hK.out _ _ (by exact trivial) (fun hHeld => ?_)
       clear hK K
       try simp only [Act.put, pA, pB, pC]
       refine wpAnyH_done (by kernel_rfl) ?_ _
       refine NoPanic.normal ?_
       have hend := hold_end HS.out HPL.out HNB.out HKW.out HKB.out HOWN1.out HKE.out HAT1.out HOWN2.out HKF.out HAT2.out
       go_wp2_with fail
       go_meet
       exact ⟨_, _, _, _, hide hend.1, hide hend.2.1, hide hend.2.2⟩
     ·(try rw [hwd])
      go_simp
      refine hK _ _ (by exact trivial) ?_
      have hHeld := trivial
      clear hK K
      try simp only [Act.put, pA, pB, pC]
      refine hO 7 (some 21) rfl fun K hK => ?_
      (try rw [hwd])
      go_simp
      obtain ⟨wb, hwb⟩ : ∃ wb, wd.alloc (.cells #[.int .i64 i.k, .int .i64 i.b, .int .i64 i.c, .int .i64 i.v] 84) = wb := ⟨_, rfl⟩
      have hkb : Kept [] wd wb := by rw [← hwb]; exact (Kept.refl [] wd).alloc _
      have hvl : Vals wb [] (some ⟨wd.heap.size, 0, none⟩) i.vals := by rw [← hwb]; exact Vals.lit wd [] _ _ (0, 0) _ rfl (by simp)
      rw [hwb]
      have HVL := hide hvl
      have q9b := hkb.cell q9 (by simp)
      have q8b := hkb.cell q8 (by simp)
      have HKB := hide hkb
      clear hkb hvl hwb
      refine hK.out _ _ (by exact trivial) (fun hHeld => ?_)
      clear hK K
      try simp only [Act.put, pA, pB, pC]
      refine hO 8 (some 22) rfl fun K hK => ?_
      refine wp_append_vals (.tmp 19) (.tmp 21) 105 rfl base 84 item.It.zero.val 4 32 Tryz.underlying105 item_info rfl (by omega) (.slice A its.length c) its.length (valsOf its) rfl (own_keep HOd.out HKB.out (by simp)) [] _ 1 1 i.vals rfl rfl HVL.out (oneCell_It i) (by simp only [maxLen]; omega) (by omega) (by have h1 := HBASE.out; have h2 := HKB.out.size; omega) ?_
      intro v1 we hown1 hk1 hat1
      obtain ⟨g1, c1, rfl⟩ := ownsRow_succ hown1
      have q9c := hk1.cell q9b hvA
      have HOWN1 := hide hown1
      have HKE := hide hk1
      have HAT1 := hide hat1
      clear hown1 hk1 hat1
      try simp only [Act.put, pA, pB, pC]
      refine hK.out _ _ (by exact trivial) (fun hHeld => ?_)
      clear hK K
      try simp only [Act.put, pA, pB, pC]
      refine hO 14 (some 28) rfl fun K hK => ?_
      refine wp_append_vals (.tmp 26) (.tmp 27) 41 rfl base 5 (.int .u8 0) 1 1 Tryz.underlying41 info8w rfl (by omega) (.slice H bl.length e) bl.length (bl.map B) rfl (own_keep (own_keep HBd.out HKB.out (by simp)) HKE.out (fun j hj hm => hAB j hj hm)) [] Bp nb cb (bb.map B) rfl (by rw [List.length_map, HNB.out, Nat.mul_one]) (((HVd.out.kept HKB.out (by simp)).kept HKE.out (fun j hj => hj)).mono (by simp)) (by intro u hu; obtain ⟨y, _, rfl⟩ := List.mem_map.1 hu; rfl) (by simp only [maxLen]; have := HLEN.out; omega) (by have := HLEN.out; omega) (by have h1 := HBASE.out; have h2 := HKB.out.size; have h3 := HKE.out.size; omega) ?_
      intro v2 wf hown2 hk2 hat2
      obtain ⟨H2, e2, rfl, _⟩ := own_slice hown2
      have HOWN2 := hide hown2
      have HKF := hide hk2
      have HAT2 := hide hat2
      have HATf := hide (((HATd.out.keep HKB.out).kept HKE.out hvA).kept hk2 hvB)
      have fzf := Blk.frozen HATf.out
      obtain ⟨s8, s9⟩ := HATf.out.rows
      clear hown2 hk2 hat2
      try simp only [Act.put, pA, pB, pC]
      refine hK.out _ _ (by exact trivial) (fun hHeld => ?_)
      clear hK K
      try simp only [Act.put, pA, pB, pC]
      refine tK 15 29 rfl ?_
      try simp only [Act.put, pA, pB, pC]
      refine tK 16 30 rfl ?_
      try simp only [Act.put, pA, pB, pC]
      refine hO 17 none rfl fun K hK => ?_
      go_simp
      refine hK.out _ _ (by exact trivial) (fun hHeld => ?_)
      clear hK K
      try simp only [Act.put, pA, pB, pC]
      refine tK 18 31 rfl ?_
      try simp only [Act.put, pA, pB, pC]
      refine tK 19 32 rfl ?_
      try simp only [Act.put, pA, pB, pC]
      refine hO 20 none rfl fun K hK => ?_
      go_simp
      refine hK.out _ _ (by exact trivial) (fun hHeld => ?_)
      clear hK K
      try simp only [Act.put, pA, pB, pC]
      refine wpAnyH_done (by kernel_rfl) ?_ _
      refine NoPanic.normal ?_
      have hend := hold_end HS.out HPL.out HNB.out HKW.out HKB.out HOWN1.out HKE.out HAT1.out HOWN2.out HKF.out HAT2.out
      go_wp2_with fail
      go_meet
      exact ⟨_, _, _, _, hide hend.1, hide hend.2.1, hide hend.2.2⟩
    ·(try rw [hwd])
     go_simp
     refine hK _ _ (by exact trivial) ?_
     have hHeld := trivial
     clear hK K
     try simp only [Act.put, pA, pB, pC]
     refine hO 6 (some 20) rfl fun K hK => ?_
     (try rw [hwd])
     go_simp
     refine hK.out _ _ (by exact trivial) (fun hHeld => ?_)
     clear hK K
     try simp only [Act.put, pA, pB, pC]
     refine hO 7 (some 21) rfl fun K hK => ?_
     (try rw [hwd])
     go_simp
     obtain ⟨wb, hwb⟩ : ∃ wb, wd.alloc (.cells #[.int .i64 i.k, .int .i64 i.b, .int .i64 i.c, .int .i64 i.v] 84) = wb := ⟨_, rfl⟩
     have hkb : Kept [] wd wb := by rw [← hwb]; exact (Kept.refl [] wd).alloc _
     have hvl : Vals wb [] (some ⟨wd.heap.size, 0, none⟩) i.vals := by rw [← hwb]; exact Vals.lit wd [] _ _ (0, 0) _ rfl (by simp)
     rw [hwb]
     have HVL := hide hvl
     have q9b := hkb.cell q9 (by simp)
     have q8b := hkb.cell q8 (by simp)
     have HKB := hide hkb
     clear hkb hvl hwb
     refine hK.out _ _ (by exact trivial) (fun hHeld => ?_)
     clear hK K
     try simp only [Act.put, pA, pB, pC]
     refine hO 8 (some 22) rfl fun K hK => ?_
     refine wp_append_vals (.tmp 19) (.tmp 21) 105 rfl base 84 item.It.zero.val 4 32 Tryz.underlying105 item_info rfl (by omega) (.slice A its.length c) its.length (valsOf its) rfl (own_keep HOd.out HKB.out (by simp)) [] _ 1 1 i.vals rfl rfl HVL.out (oneCell_It i) (by simp only [maxLen]; omega) (by omega) (by have h1 := HBASE.out; have h2 := HKB.out.size; omega) ?_
     intro v1 we hown1 hk1 hat1
     obtain ⟨g1, c1, rfl⟩ := ownsRow_succ hown1
     have q9c := hk1.cell q9b hvA
     have HOWN1 := hide hown1
     have HKE := hide hk1
     have HAT1 := hide hat1
     clear hown1 hk1 hat1
     try simp only [Act.put, pA, pB, pC]
     refine hK.out _ _ (by exact trivial) (fun hHeld => ?_)
     clear hK K
     try simp only [Act.put, pA, pB, pC]
     refine hO 14 (some 28) rfl fun K hK => ?_
     refine wp_append_vals (.tmp 26) (.tmp 27) 41 rfl base 5 (.int .u8 0) 1 1 Tryz.underlying41 info8w rfl (by omega) (.slice H bl.length e) bl.length (bl.map B) rfl (own_keep (own_keep HBd.out HKB.out (by simp)) HKE.out (fun j hj hm => hAB j hj hm)) [] Bp nb cb (bb.map B) rfl (by rw [List.length_map, HNB.out, Nat.mul_one]) (((HVd.out.kept HKB.out (by simp)).kept HKE.out (fun j hj => hj)).mono (by simp)) (by intro u hu; obtain ⟨y, _, rfl⟩ := List.mem_map.1 hu; rfl) (by simp only [maxLen]; have := HLEN.out; omega) (by have := HLEN.out; omega) (by have h1 := HBASE.out; have h2 := HKB.out.size; have h3 := HKE.out.size; omega) ?_
     intro v2 wf hown2 hk2 hat2
     obtain ⟨H2, e2, rfl, _⟩ := own_slice hown2
     have HOWN2 := hide hown2
     have HKF := hide hk2
     have HAT2 := hide hat2
     have HATf := hide (((HATd.out.keep HKB.out).kept HKE.out hvA).kept hk2 hvB)
     have fzf := Blk.frozen HATf.out
     obtain ⟨s8, s9⟩ := HATf.out.rows
     clear hown2 hk2 hat2
     try simp only [Act.put, pA, pB, pC]
     refine hK.out _ _ (by exact trivial) (fun hHeld => ?_)
     clear hK K
     try simp only [Act.put, pA, pB, pC]
     refine tK 15 29 rfl ?_
     try simp only [Act.put, pA, pB, pC]
     refine tK 16 30 rfl ?_
     try simp only [Act.put, pA, pB, pC]
     refine hO 17 none rfl fun K hK => ?_
     go_simp
     refine hK.out _ _ (by exact trivial) (fun hHeld => ?_)
     clear hK K
     try simp only [Act.put, pA, pB, pC]
     refine tK 18 31 rfl ?_
     try simp only [Act.put, pA, pB, pC]
     refine tK 19 32 rfl ?_
     try simp only [Act.put, pA, pB, pC]
     refine hO 20 none rfl fun K hK => ?_
     go_simp
     refine hK.out _ _ (by exact trivial) (fun hHeld => ?_)
     clear hK K
     try simp only [Act.put, pA, pB, pC]
     refine wpAnyH_done (by kernel_rfl) ?_ _
     refine NoPanic.normal ?_
     have hend := hold_end HS.out HPL.out HNB.out HKW.out HKB.out HOWN1.out HKE.out HAT1.out HOWN2.out HKF.out HAT2.out
     go_wp2_with fail
     go_meet
     exact ⟨_, _, _, _, hide hend.1, hide hend.2.1, hide hend.2.2⟩
   ·(try rw [hwd])
    go_simp
    refine hK _ _ (by exact trivial) ?_
    have hHeld := trivial
    clear hK K
    try simp only [Act.put, pA, pB, pC]
    refine next_three (i := 5) (j := 7) (l := 12) (o := ⟨some 19, _, _, _, _, _⟩) (o' := ⟨some 21, _, _, _, _, _⟩) (o'' := ⟨some 26, _, _, _, _, _⟩) (by kernel_rfl) rfl (by rfl) rfl (by rfl) rfl (by rfl) (fun K hK => ?_) (fun K hK => ?_) (fun K hK => ?_)
    ·(try rw [hwd])
     go_simp
     refine hK _ _ (by exact trivial) ?_
     have hHeld := trivial
     clear hK K
     try simp only [Act.put, pA, pB, pC]
     refine next_two (i := 7) (j := 12) (o := ⟨some 21, _, _, _, _, _⟩) (o' := ⟨some 26, _, _, _, _, _⟩) (by kernel_rfl) rfl (by rfl) rfl (by rfl) (fun K hK => ?_) (fun K hK => ?_)
     ·(try rw [hwd])
      go_simp
      obtain ⟨wb, hwb⟩ : ∃ wb, wd.alloc (.cells #[.int .i64 i.k, .int .i64 i.b, .int .i64 i.c, .int .i64 i.v] 84) = wb := ⟨_, rfl⟩
      have hkb : Kept [] wd wb := by rw [← hwb]; exact (Kept.refl [] wd).alloc _
      have hvl : Vals wb [] (some ⟨wd.heap.size, 0, none⟩) i.vals := by rw [← hwb]; exact Vals.lit wd [] _ _ (0, 0) _ rfl (by simp)
      rw [hwb]
      have HVL := hide hvl
      have q9b := hkb.cell q9 (by simp)
      have q8b := hkb.cell q8 (by simp)
      have HKB := hide hkb
      clear hkb hvl hwb
      refine hK _ _ (by exact trivial) ?_
      have hHeld := trivial
      clear hK K
      try simp only [Act.put, pA, pB, pC]
      refine next_two (i := 8) (j := 12) (o := ⟨some 22, _, _, _, _, _⟩) (o' := ⟨some 26, _, _, _, _, _⟩) (by kernel_rfl) rfl (by rfl) rfl (by rfl) (fun K hK => ?_) (fun K hK => ?_)
      ·refine wp_append_vals (.tmp 19) (.tmp 21) 105 rfl base 84 item.It.zero.val 4 32 Tryz.underlying105 item_info rfl (by omega) (.slice A its.length c) its.length (valsOf its) rfl (own_keep HOd.out HKB.out (by simp)) [] _ 1 1 i.vals rfl rfl HVL.out (oneCell_It i) (by simp only [maxLen]; omega) (by omega) (by have h1 := HBASE.out; have h2 := HKB.out.size; omega) ?_
       intro v1 we hown1 hk1 hat1
       obtain ⟨g1, c1, rfl⟩ := ownsRow_succ hown1
       have q9c := hk1.cell q9b hvA
       have HOWN1 := hide hown1
       have HKE := hide hk1
       have HAT1 := hide hat1
       clear hown1 hk1 hat1
       try simp only [Act.put, pA, pB, pC]
       refine hK _ _ (by exact trivial) ?_
       have hHeld := trivial
       clear hK K
       try simp only [Act.put, pA, pB, pC]
       refine hO 12 (some 26) rfl fun K hK => ?_
       (try rw [hwd])
       go_simp
       refine hK.out _ _ (by exact trivial) (fun hHeld => ?_)
       clear hK K
       try simp only [Act.put, pA, pB, pC]
       refine hO 14 (some 28) rfl fun K hK => ?_
       refine wp_append_vals (.tmp 26) (.tmp 27) 41 rfl base 5 (.int .u8 0) 1 1 Tryz.underlying41 info8w rfl (by omega) (.slice H bl.length e) bl.length (bl.map B) rfl (own_keep (own_keep HBd.out HKB.out (by simp)) HKE.out (fun j hj hm => hAB j hj hm)) [] Bp nb cb (bb.map B) rfl (by rw [List.length_map, HNB.out, Nat.mul_one]) (((HVd.out.kept HKB.out (by simp)).kept HKE.out (fun j hj => hj)).mono (by simp)) (by intro u hu; obtain ⟨y, _, rfl⟩ := List.mem_map.1 hu; rfl) (by simp only [maxLen]; have := HLEN.out; omega) (by have := HLEN.out; omega) (by have h1 := HBASE.out; have h2 := HKB.out.size; have h3 := HKE.out.size; omega) ?_
       intro v2 wf hown2 hk2 hat2
       obtain ⟨H2, e2, rfl, _⟩ := own_slice hown2
       have HOWN2 := hide hown2
       have HKF := hide hk2
       have HAT2 := hide hat2
       have HATf := hide (((HATd.out.keep HKB.out).kept HKE.out hvA).kept hk2 hvB)
       have fzf := Blk.frozen HATf.out
       obtain ⟨s8, s9⟩ := HATf.out.rows
       clear hown2 hk2 hat2
       try simp only [Act.put, pA, pB, pC]
       refine hK.out _ _ (by exact trivial) (fun hHeld => ?_)
       clear hK K
       try simp only [Act.put, pA, pB, pC]
       refine tK 15 29 rfl ?_
       try simp only [Act.put, pA, pB, pC]
       refine tK 16 30 rfl ?_
       try simp only [Act.put, pA, pB, pC]
       refine hO 17 none rfl fun K hK => ?_
       go_simp
       refine hK.out _ _ (by exact trivial) (fun hHeld => ?_)
       clear hK K
       try simp only [Act.put, pA, pB, pC]
       refine tK 18 31 rfl ?_
       try simp only [Act.put, pA, pB, pC]
       refine tK 19 32 rfl ?_
       try simp only [Act.put, pA, pB, pC]
       refine hO 20 none rfl fun K hK => ?_
       go_simp
       refine hK.out _ _ (by exact trivial) (fun hHeld => ?_)
       clear hK K
       try simp only [Act.put, pA, pB, pC]
       refine wpAnyH_done (by kernel_rfl) ?_ _
       refine NoPanic.normal ?_
       have hend := hold_end HS.out HPL.out HNB.out HKW.out HKB.out HOWN1.out HKE.out HAT1.out HOWN2.out HKF.out HAT2.out
       go_wp2_with fail
       go_meet
       exact ⟨_, _, _, _, hide hend.1, hide hend.2.1, hide hend.2.2⟩
      ·(try rw [hwd])
       go_simp
       refine hK _ _ (by exact trivial) ?_
       have hHeld := trivial
       clear hK K
       try simp only [Act.put, pA, pB, pC]
       refine hO 8 (some 22) rfl fun K hK => ?_
       refine wp_append_vals (.tmp 19) (.tmp 21) 105 rfl base 84 item.It.zero.val 4 32 Tryz.underlying105 item_info rfl (by omega) (.slice A its.length c) its.length (valsOf its) rfl (own_keep HOd.out HKB.out (by simp)) [] _ 1 1 i.vals rfl rfl HVL.out (oneCell_It i) (by simp only [maxLen]; omega) (by omega) (by have h1 := HBASE.out; have h2 := HKB.out.size; omega) ?_
       intro v1 we hown1 hk1 hat1
       obtain ⟨g1, c1, rfl⟩ := ownsRow_succ hown1
       have q9c := hk1.cell q9b hvA
       have HOWN1 := hide hown1
       have HKE := hide hk1
       have HAT1 := hide hat1
       clear hown1 hk1 hat1
       try simp only [Act.put, pA, pB, pC]
       refine hK.out _ _ (by exact trivial) (fun hHeld => ?_)
       clear hK K
       try simp only [Act.put, pA, pB, pC]
       refine hO 14 (some 28) rfl fun K hK => ?_
       refine wp_append_vals (.tmp 26) (.tmp 27) 41 rfl base 5 (.int .u8 0) 1 1 Tryz.underlying41 info8w rfl (by omega) (.slice H bl.length e) bl.length (bl.map B) rfl (own_keep (own_keep HBd.out HKB.out (by simp)) HKE.out (fun j hj hm => hAB j hj hm)) [] Bp nb cb (bb.map B) rfl (by rw [List.length_map, HNB.out, Nat.mul_one]) (((HVd.out.kept HKB.out (by simp)).kept HKE.out (fun j hj => hj)).mono (by simp)) (by intro u hu; obtain ⟨y, _, rfl⟩ := List.mem_map.1 hu; rfl) (by simp only [maxLen]; have := HLEN.out; omega) (by have := HLEN.out; omega) (by have h1 := HBASE.out; have h2 := HKB.out.size; have h3 := HKE.out.size; omega) ?_
       intro v2 wf hown2 hk2 hat2
       obtain ⟨H2, e2, rfl, _⟩ := own_slice hown2
       have HOWN2 := hide hown2
       have HKF := hide hk2
       have HAT2 := hide hat2
       have HATf := hide (((HATd.out.keep HKB.out).kept HKE.out hvA).kept hk2 hvB)
       have fzf := Blk.frozen HATf.out
       obtain ⟨s8, s9⟩ := HATf.out.rows
       clear hown2 hk2 hat2
       try simp only [Act.put, pA, pB, pC]
       refine hK.out _ _ (by exact trivial) (fun hHeld => ?_)
       clear hK K
       try simp only [Act.put, pA, pB, pC]
       refine tK 15 29 rfl ?_
       try simp only [Act.put, pA, pB, pC]
       refine tK 16 30 rfl ?_
       try simp only [Act.put, pA, pB, pC]
       refine hO 17 none rfl fun K hK => ?_
       go_simp
       refine hK.out _ _ (by exact trivial) (fun hHeld => ?_)
       clear hK K
       try simp only [Act.put, pA, pB, pC]
       refine tK 18 31 rfl ?_
       try simp only [Act.put, pA, pB, pC]
       refine tK 19 32 rfl ?_
       try simp only [Act.put, pA, pB, pC]
       refine hO 20 none rfl fun K hK => ?_
       go_simp
       refine hK.out _ _ (by exact trivial) (fun hHeld => ?_)
       clear hK K
       try simp only [Act.put, pA, pB, pC]
       refine wpAnyH_done (by kernel_rfl) ?_ _
       refine NoPanic.normal ?_
       have hend := hold_end HS.out HPL.out HNB.out HKW.out HKB.out HOWN1.out HKE.out HAT1.out HOWN2.out HKF.out HAT2.out
       go_wp2_with fail
       go_meet
       exact ⟨_, _, _, _, hide hend.1, hide hend.2.1, hide hend.2.2⟩
     ·(try rw [hwd])
      go_simp
      refine hK _ _ (by exact trivial) ?_
      have hHeld := trivial
      clear hK K
      try simp only [Act.put, pA, pB, pC]
      refine hO 7 (some 21) rfl fun K hK => ?_
      (try rw [hwd])
      go_simp
      obtain ⟨wb, hwb⟩ : ∃ wb, wd.alloc (.cells #[.int .i64 i.k, .int .i64 i.b, .int .i64 i.c, .int .i64 i.v] 84) = wb := ⟨_, rfl⟩
      have hkb : Kept [] wd wb := by rw [← hwb]; exact (Kept.refl [] wd).alloc _
      have hvl : Vals wb [] (some ⟨wd.heap.size, 0, none⟩) i.vals := by rw [← hwb]; exact Vals.lit wd [] _ _ (0, 0) _ rfl (by simp)
      rw [hwb]
      have HVL := hide hvl
      have q9b := hkb.cell q9 (by simp)
      have q8b := hkb.cell q8 (by simp)
      have HKB := hide hkb
      clear hkb hvl hwb
      refine hK.out _ _ (by exact trivial) (fun hHeld => ?_)
      clear hK K
      try simp only [Act.put, pA, pB, pC]
      refine hO 8 (some 22) rfl fun K hK => ?_
      refine wp_append_vals (.tmp 19) (.tmp 21) 105 rfl base 84 item.It.zero.val 4 32 Tryz.underlying105 item_info rfl (by omega) (.slice A its.length c) its.length (valsOf its) rfl (own_keep HOd.out HKB.out (by simp)) [] _ 1 1 i.vals rfl rfl HVL.out (oneCell_It i) (by simp only [maxLen]; omega) (by omega) (by have h1 := HBASE.out; have h2 := HKB.out.size; omega) ?_
      intro v1 we hown1 hk1 hat1
      obtain ⟨g1, c1, rfl⟩ := ownsRow_succ hown1
      have q9c := hk1.cell q9b hvA
      have HOWN1 := hide hown1
      have HKE := hide hk1
      have HAT1 := hide hat1
      clear hown1 hk1 hat1
      try simp only [Act.put, pA, pB, pC]
      refine hK.out _ _ (by exact trivial) (fun hHeld => ?_)
      clear hK K
      try simp only [Act.put, pA, pB, pC]
      refine hO 14 (some 28) rfl fun K hK => ?_
      refine wp_append_vals (.tmp 26) (.tmp 27) 41 rfl base 5 (.int .u8 0) 1 1 Tryz.underlying41 info8w rfl (by omega) (.slice H bl.length e) bl.length (bl.map B) rfl (own_keep (own_keep HBd.out HKB.out (by simp)) HKE.out (fun j hj hm => hAB j hj hm)) [] Bp nb cb (bb.map B) rfl (by rw [List.length_map, HNB.out, Nat.mul_one]) (((HVd.out.kept HKB.out (by simp)).kept HKE.out (fun j hj => hj)).mono (by simp)) (by intro u hu; obtain ⟨y, _, rfl⟩ := List.mem_map.1 hu; rfl) (by simp only [maxLen]; have := HLEN.out; omega) (by have := HLEN.out; omega) (by have h1 := HBASE.out; have h2 := HKB.out.size; have h3 := HKE.out.size; omega) ?_
      intro v2 wf hown2 hk2 hat2
      obtain ⟨H2, e2, rfl, _⟩ := own_slice hown2
      have HOWN2 := hide hown2
      have HKF := hide hk2
      have HAT2 := hide hat2
      have HATf := hide (((HATd.out.keep HKB.out).kept HKE.out hvA).kept hk2 hvB)
      have fzf := Blk.frozen HATf.out
      obtain ⟨s8, s9⟩ := HATf.out.rows
      clear hown2 hk2 hat2
      try simp only [Act.put, pA, pB, pC]
      refine hK.out _ _ (by exact trivial) (fun hHeld => ?_)
      clear hK K
      try simp only [Act.put, pA, pB, pC]
      refine tK 15 29 rfl ?_
      try simp only [Act.put, pA, pB, pC]
      refine tK 16 30 rfl ?_
      try simp only [Act.put, pA, pB, pC]
      refine hO 17 none rfl fun K hK => ?_
      go_simp
      refine hK.out _ _ (by exact trivial) (fun hHeld => ?_)
      clear hK K
      try simp only [Act.put, pA, pB, pC]
      refine tK 18 31 rfl ?_
      try simp only [Act.put, pA, pB, pC]
      refine tK 19 32 rfl ?_
      try simp only [Act.put, pA, pB, pC]
      refine hO 20 none rfl fun K hK => ?_
      go_simp
      refine hK.out _ _ (by exact trivial) (fun hHeld => ?_)
      clear hK K
      try simp only [Act.put, pA, pB, pC]
      refine wpAnyH_done (by kernel_rfl) ?_ _
      refine NoPanic.normal ?_
      have hend := hold_end HS.out HPL.out HNB.out HKW.out HKB.out HOWN1.out HKE.out HAT1.out HOWN2.out HKF.out HAT2.out
      go_wp2_with fail
      go_meet
      exact ⟨_, _, _, _, hide hend.1, hide hend.2.1, hide hend.2.2⟩
    ·(try rw [hwd])
     go_simp
     obtain ⟨wb, hwb⟩ : ∃ wb, wd.alloc (.cells #[.int .i64 i.k, .int .i64 i.b, .int .i64 i.c, .int .i64 i.v] 84) = wb := ⟨_, rfl⟩
     have hkb : Kept [] wd wb := by rw [← hwb]; exact (Kept.refl [] wd).alloc _
     have hvl : Vals wb [] (some ⟨wd.heap.size, 0, none⟩) i.vals := by rw [← hwb]; exact Vals.lit wd [] _ _ (0, 0) _ rfl (by simp)
     rw [hwb]
     have HVL := hide hvl
     have q9b := hkb.cell q9 (by simp)
     have q8b := hkb.cell q8 (by simp)
     have HKB := hide hkb
     clear hkb hvl hwb
     refine hK _ _ (by exact trivial) ?_
     have hHeld := trivial
     clear hK K
     try simp only [Act.put, pA, pB, pC]
     refine next_two (i := 5) (j := 12) (o := ⟨some 19, _, _, _, _, _⟩) (o' := ⟨some 26, _, _, _, _, _⟩) (by kernel_rfl) rfl (by rfl) rfl (by rfl) (fun K hK => ?_) (fun K hK => ?_)
     ·(try rw [hwd])
      go_simp
      refine hK _ _ (by exact trivial) ?_
      have hHeld := trivial
      clear hK K
      try simp only [Act.put, pA, pB, pC]
      refine next_two (i := 8) (j := 12) (o := ⟨some 22, _, _, _, _, _⟩) (o' := ⟨some 26, _, _, _, _, _⟩) (by kernel_rfl) rfl (by rfl) rfl (by rfl) (fun K hK => ?_) (fun K hK => ?_)
      ·refine wp_append_vals (.tmp 19) (.tmp 21) 105 rfl base 84 item.It.zero.val 4 32 Tryz.underlying105 item_info rfl (by omega) (.slice A its.length c) its.length (valsOf its) rfl (own_keep HOd.out HKB.out (by simp)) [] _ 1 1 i.vals rfl rfl HVL.out (oneCell_It i) (by simp only [maxLen]; omega) (by omega) (by have h1 := HBASE.out; have h2 := HKB.out.size; omega) ?_
       intro v1 we hown1 hk1 hat1
       obtain ⟨g1, c1, rfl⟩ := ownsRow_succ hown1
       have q9c := hk1.cell q9b hvA
       have HOWN1 := hide hown1
       have HKE := hide hk1
       have HAT1 := hide hat1
       clear hown1 hk1 hat1
       try simp only [Act.put, pA, pB, pC]
       refine hK _ _ (by exact trivial) ?_
       have hHeld := trivial
       clear hK K
       try simp only [Act.put, pA, pB, pC]
       refine hO 12 (some 26) rfl fun K hK => ?_
       (try rw [hwd])
       go_simp
       refine hK.out _ _ (by exact trivial) (fun hHeld => ?_)
       clear hK K
       try simp only [Act.put, pA, pB, pC]
       refine hO 14 (some 28) rfl fun K hK => ?_
       refine wp_append_vals (.tmp 26) (.tmp 27) 41 rfl base 5 (.int .u8 0) 1 1 Tryz.underlying41 info8w rfl (by omega) (.slice H bl.length e) bl.length (bl.map B) rfl (own_keep (own_keep HBd.out HKB.out (by simp)) HKE.out (fun j hj hm => hAB j hj hm)) [] Bp nb cb (bb.map B) rfl (by rw [List.length_map, HNB.out, Nat.mul_one]) (((HVd.out.kept HKB.out (by simp)).kept HKE.out (fun j hj => hj)).mono (by simp)) (by intro u hu; obtain ⟨y, _, rfl⟩ := List.mem_map.1 hu; rfl) (by simp only [maxLen]; have := HLEN.out; omega) (by have := HLEN.out; omega) (by have h1 := HBASE.out; have h2 := HKB.out.size; have h3 := HKE.out.size; omega) ?_
       intro v2 wf hown2 hk2 hat2
       obtain ⟨H2, e2, rfl, _⟩ := own_slice hown2
       have HOWN2 := hide hown2
       have HKF := hide hk2
       have HAT2 := hide hat2
       have HATf := hide (((HATd.out.keep HKB.out).kept HKE.out hvA).kept hk2 hvB)
       have fzf := Blk.frozen HATf.out
       obtain ⟨s8, s9⟩ := HATf.out.rows
       clear hown2 hk2 hat2
       try simp only [Act.put, pA, pB, pC]
       refine hK.out _ _ (by exact trivial) (fun hHeld => ?_)
       clear hK K
       try simp only [Act.put, pA, pB, pC]
       refine tK 15 29 rfl ?_
       try simp only [Act.put, pA, pB, pC]
       refine tK 16 30 rfl ?_
       try simp only [Act.put, pA, pB, pC]
       refine hO 17 none rfl fun K hK => ?_
       go_simp
       refine hK.out _ _ (by exact trivial) (fun hHeld => ?_)
       clear hK K
       try simp only [Act.put, pA, pB, pC]
       refine tK 18 31 rfl ?_
       try simp only [Act.put, pA, pB, pC]
       refine tK 19 32 rfl ?_
       try simp only [Act.put, pA, pB, pC]
       refine hO 20 none rfl fun K hK => ?_
       go_simp
       refine hK.out _ _ (by exact trivial) (fun hHeld => ?_)
       clear hK K
       try simp only [Act.put, pA, pB, pC]
       refine wpAnyH_done (by kernel_rfl) ?_ _
       refine NoPanic.normal ?_
       have hend := hold_end HS.out HPL.out HNB.out HKW.out HKB.out HOWN1.out HKE.out HAT1.out HOWN2.out HKF.out HAT2.out
       go_wp2_with fail
       go_meet
       exact ⟨_, _, _, _, hide hend.1, hide hend.2.1, hide hend.2.2⟩
      ·(try rw [hwd])
       go_simp
       refine hK _ _ (by exact trivial) ?_
       have hHeld := trivial
       clear hK K
       try simp only [Act.put, pA, pB, pC]
       refine hO 8 (some 22) rfl fun K hK => ?_
       refine wp_append_vals (.tmp 19) (.tmp 21) 105 rfl base 84 item.It.zero.val 4 32 Tryz.underlying105 item_info rfl (by omega) (.slice A its.length c) its.length (valsOf its) rfl (own_keep HOd.out HKB.out (by simp)) [] _ 1 1 i.vals rfl rfl HVL.out (oneCell_It i) (by simp only [maxLen]; omega) (by omega) (by have h1 := HBASE.out; have h2 := HKB.out.size; omega) ?_
       intro v1 we hown1 hk1 hat1
       obtain ⟨g1, c1, rfl⟩ := ownsRow_succ hown1
       have q9c := hk1.cell q9b hvA
       have HOWN1 := hide hown1
       have HKE := hide hk1
       have HAT1 := hide hat1
       clear hown1 hk1 hat1
       try simp only [Act.put, pA, pB, pC]
       refine hK.out _ _ (by exact trivial) (fun hHeld => ?_)
       clear hK K
       try simp only [Act.put, pA, pB, pC]
       refine hO 14 (some 28) rfl fun K hK => ?_
       refine wp_append_vals (.tmp 26) (.tmp 27) 41 rfl base 5 (.int .u8 0) 1 1 Tryz.underlying41 info8w rfl (by omega) (.slice H bl.length e) bl.length (bl.map B) rfl (own_keep (own_keep HBd.out HKB.out (by simp)) HKE.out (fun j hj hm => hAB j hj hm)) [] Bp nb cb (bb.map B) rfl (by rw [List.length_map, HNB.out, Nat.mul_one]) (((HVd.out.kept HKB.out (by simp)).kept HKE.out (fun j hj => hj)).mono (by simp)) (by intro u hu; obtain ⟨y, _, rfl⟩ := List.mem_map.1 hu; rfl) (by simp only [maxLen]; have := HLEN.out; omega) (by have := HLEN.out; omega) (by have h1 := HBASE.out; have h2 := HKB.out.size; have h3 := HKE.out.size; omega) ?_
       intro v2 wf hown2 hk2 hat2
       obtain ⟨H2, e2, rfl, _⟩ := own_slice hown2
       have HOWN2 := hide hown2
       have HKF := hide hk2
       have HAT2 := hide hat2
       have HATf := hide (((HATd.out.keep HKB.out).kept HKE.out hvA).kept hk2 hvB)
       have fzf := Blk.frozen HATf.out
       obtain ⟨s8, s9⟩ := HATf.out.rows
       clear hown2 hk2 hat2
       try simp only [Act.put, pA, pB, pC]
       refine hK.out _ _ (by exact trivial) (fun hHeld => ?_)
       clear hK K
       try simp only [Act.put, pA, pB, pC]
       refine tK 15 29 rfl ?_
       try simp only [Act.put, pA, pB, pC]
       refine tK 16 30 rfl ?_
       try simp only [Act.put, pA, pB, pC]
       refine hO 17 none rfl fun K hK => ?_
       go_simp
       refine hK.out _ _ (by exact trivial) (fun hHeld => ?_)
       clear hK K
       try simp only [Act.put, pA, pB, pC]
       refine tK 18 31 rfl ?_
       try simp only [Act.put, pA, pB, pC]
       refine tK 19 32 rfl ?_
       try simp only [Act.put, pA, pB, pC]
       refine hO 20 none rfl fun K hK => ?_
       go_simp
       refine hK.out _ _ (by exact trivial) (fun hHeld => ?_)
       clear hK K
       try simp only [Act.put, pA, pB, pC]
       refine wpAnyH_done (by kernel_rfl) ?_ _
       refine NoPanic.normal ?_
       have hend := hold_end HS.out HPL.out HNB.out HKW.out HKB.out HOWN1.out HKE.out HAT1.out HOWN2.out HKF.out HAT2.out
       go_wp2_with fail
       go_meet
       exact ⟨_, _, _, _, hide hend.1, hide hend.2.1, hide hend.2.2⟩
     ·(try rw [hwd])
      go_simp
      refine hK _ _ (by exact trivial) ?_
      have hHeld := trivial
      clear hK K
      try simp only [Act.put, pA, pB, pC]
      refine hO 5 (some 19) rfl fun K hK => ?_
      (try rw [hwd])
      go_simp
      refine hK.out _ _ (by exact trivial) (fun hHeld => ?_)
      clear hK K
      try simp only [Act.put, pA, pB, pC]
      refine hO 8 (some 22) rfl fun K hK => ?_
      refine wp_append_vals (.tmp 19) (.tmp 21) 105 rfl base 84 item.It.zero.val 4 32 Tryz.underlying105 item_info rfl (by omega) (.slice A its.length c) its.length (valsOf its) rfl (own_keep HOd.out HKB.out (by simp)) [] _ 1 1 i.vals rfl rfl HVL.out (oneCell_It i) (by simp only [maxLen]; omega) (by omega) (by have h1 := HBASE.out; have h2 := HKB.out.size; omega) ?_
      intro v1 we hown1 hk1 hat1
      obtain ⟨g1, c1, rfl⟩ := ownsRow_succ hown1
      have q9c := hk1.cell q9b hvA
      have HOWN1 := hide hown1
      have HKE := hide hk1
      have HAT1 := hide hat1
      clear hown1 hk1 hat1
      try simp only [Act.put, pA, pB, pC]
      refine hK.out _ _ (by exact trivial) (fun hHeld => ?_)
      clear hK K
      try simp only [Act.put, pA, pB, pC]
      refine hO 14 (some 28) rfl fun K hK => ?_
      refine wp_append_vals (.tmp 26) (.tmp 27) 41 rfl base 5 (.int .u8 0) 1 1 Tryz.underlying41 info8w rfl (by omega) (.slice H bl.length e) bl.length (bl.map B) rfl (own_keep (own_keep HBd.out HKB.out (by simp)) HKE.out (fun j hj hm => hAB j hj hm)) [] Bp nb cb (bb.map B) rfl (by rw [List.length_map, HNB.out, Nat.mul_one]) (((HVd.out.kept HKB.out (by simp)).kept HKE.out (fun j hj => hj)).mono (by simp)) (by intro u hu; obtain ⟨y, _, rfl⟩ := List.mem_map.1 hu; rfl) (by simp only [maxLen]; have := HLEN.out; omega) (by have := HLEN.out; omega) (by have h1 := HBASE.out; have h2 := HKB.out.size; have h3 := HKE.out.size; omega) ?_
      intro v2 wf hown2 hk2 hat2
      obtain ⟨H2, e2, rfl, _⟩ := own_slice hown2
      have HOWN2 := hide hown2
      have HKF := hide hk2
      have HAT2 := hide hat2
      have HATf := hide (((HATd.out.keep HKB.out).kept HKE.out hvA).kept hk2 hvB)
      have fzf := Blk.frozen HATf.out
      obtain ⟨s8, s9⟩ := HATf.out.rows
      clear hown2 hk2 hat2
      try simp only [Act.put, pA, pB, pC]
      refine hK.out _ _ (by exact trivial) (fun hHeld => ?_)
      clear hK K
      try simp only [Act.put, pA, pB, pC]
      refine tK 15 29 rfl ?_
      try simp only [Act.put, pA, pB, pC]
      refine tK 16 30 rfl ?_
      try simp only [Act.put, pA, pB, pC]
      refine hO 17 none rfl fun K hK => ?_
      go_simp
      refine hK.out _ _ (by exact trivial) (fun hHeld => ?_)
      clear hK K
      try simp only [Act.put, pA, pB, pC]
      refine tK 18 31 rfl ?_
      try simp only [Act.put, pA, pB, pC]
      refine tK 19 32 rfl ?_
      try simp only [Act.put, pA, pB, pC]
      refine hO 20 none rfl fun K hK => ?_
      go_simp
      refine hK.out _ _ (by exact trivial) (fun hHeld => ?_)
      clear hK K
      try simp only [Act.put, pA, pB, pC]
      refine wpAnyH_done (by kernel_rfl) ?_ _
      refine NoPanic.normal ?_
      have hend := hold_end HS.out HPL.out HNB.out HKW.out HKB.out HOWN1.out HKE.out HAT1.out HOWN2.out HKF.out HAT2.out
      go_wp2_with fail
      go_meet
      exact ⟨_, _, _, _, hide hend.1, hide hend.2.1, hide hend.2.2⟩
    ·(try rw [hwd])
     go_simp
     refine hK _ _ (by exact trivial) ?_
     have hHeld := trivial
     clear hK K
     try simp only [Act.put, pA, pB, pC]
     refine next_two (i := 5) (j := 7) (o := ⟨some 19, _, _, _, _, _⟩) (o' := ⟨some 21, _, _, _, _, _⟩) (by kernel_rfl) rfl (by rfl) rfl (by rfl) (fun K hK => ?_) (fun K hK => ?_)
     ·(try rw [hwd])
      go_simp
      refine hK _ _ (by exact trivial) ?_
      have hHeld := trivial
      clear hK K
      try simp only [Act.put, pA, pB, pC]
      refine hO 7 (some 21) rfl fun K hK => ?_
      (try rw [hwd])
      go_simp
      obtain ⟨wb, hwb⟩ : ∃ wb, wd.alloc (.cells #[.int .i64 i.k, .int .i64 i.b, .int .i64 i.c, .int .i64 i.v] 84) = wb := ⟨_, rfl⟩
      have hkb : Kept [] wd wb := by rw [← hwb]; exact (Kept.refl [] wd).alloc _
      have hvl : Vals wb [] (some ⟨wd.heap.size, 0, none⟩) i.vals := by rw [← hwb]; exact Vals.lit wd [] _ _ (0, 0) _ rfl (by simp)
      rw [hwb]
      have HVL := hide hvl
      have q9b := hkb.cell q9 (by simp)
      have q8b := hkb.cell q8 (by simp)
      have HKB := hide hkb
      clear hkb hvl hwb
      refine hK.out _ _ (by exact trivial) (fun hHeld => ?_)
      clear hK K
      try simp only [Act.put, pA, pB, pC]
      refine hO 8 (some 22) rfl fun K hK => ?_
      refine wp_append_vals (.tmp 19) (.tmp 21) 105 rfl base 84 item.It.zero.val 4 32 Tryz.underlying105 item_info rfl (by omega) (.slice A its.length c) its.length (valsOf its) rfl (own_keep HOd.out HKB.out (by simp)) [] _ 1 1 i.vals rfl rfl HVL.out (oneCell_It i) (by simp only [maxLen]; omega) (by omega) (by have h1 := HBASE.out; have h2 := HKB.out.size; omega) ?_
      intro v1 we hown1 hk1 hat1
      obtain ⟨g1, c1, rfl⟩ := ownsRow_succ hown1
      have q9c := hk1.cell q9b hvA
      have HOWN1 := hide hown1
      have HKE := hide hk1
      have HAT1 := hide hat1
      clear hown1 hk1 hat1
      try simp only [Act.put, pA, pB, pC]
      refine hK.out _ _ (by exact trivial) (fun hHeld => ?_)
      clear hK K
      try simp only [Act.put, pA, pB, pC]
      refine hO 14 (some 28) rfl fun K hK => ?_
      refine wp_append_vals (.tmp 26) (.tmp 27) 41 rfl base 5 (.int .u8 0) 1 1 Tryz.underlying41 info8w rfl (by omega) (.slice H bl.length e) bl.length (bl.map B) rfl (own_keep (own_keep HBd.out HKB.out (by simp)) HKE.out (fun j hj hm => hAB j hj hm)) [] Bp nb cb (bb.map B) rfl (by rw [List.length_map, HNB.out, Nat.mul_one]) (((HVd.out.kept HKB.out (by simp)).kept HKE.out (fun j hj => hj)).mono (by simp)) (by intro u hu; obtain ⟨y, _, rfl⟩ := List.mem_map.1 hu; rfl) (by simp only [maxLen]; have := HLEN.out; omega) (by have := HLEN.out; omega) (by have h1 := HBASE.out; have h2 := HKB.out.size; have h3 := HKE.out.size; omega) ?_
      intro v2 wf hown2 hk2 hat2
      obtain ⟨H2, e2, rfl, _⟩ := own_slice hown2
      have HOWN2 := hide hown2
      have HKF := hide hk2
      have HAT2 := hide hat2
      have HATf := hide (((HATd.out.keep HKB.out).kept HKE.out hvA).kept hk2 hvB)
      have fzf := Blk.frozen HATf.out
      obtain ⟨s8, s9⟩ := HATf.out.rows
      clear hown2 hk2 hat2
      try simp only [Act.put, pA, pB, pC]
      refine hK.out _ _ (by exact trivial) (fun hHeld => ?_)
      clear hK K
      try simp only [Act.put, pA, pB, pC]
      refine tK 15 29 rfl ?_
      try simp only [Act.put, pA, pB, pC]
      refine tK 16 30 rfl ?_
      try simp only [Act.put, pA, pB, pC]
      refine hO 17 none rfl fun K hK => ?_
      go_simp
      refine hK.out _ _ (by exact trivial) (fun hHeld => ?_)
      clear hK K
      try simp only [Act.put, pA, pB, pC]
      refine tK 18 31 rfl ?_
      try simp only [Act.put, pA, pB, pC]
      refine tK 19 32 rfl ?_
      try simp only [Act.put, pA, pB, pC]
      refine hO 20 none rfl fun K hK => ?_
      go_simp
      refine hK.out _ _ (by exact trivial) (fun hHeld => ?_)
      clear hK K
      try simp only [Act.put, pA, pB, pC]
      refine wpAnyH_done (by kernel_rfl) ?_ _
      refine NoPanic.normal ?_
      have hend := hold_end HS.out HPL.out HNB.out HKW.out HKB.out HOWN1.out HKE.out HAT1.out HOWN2.out HKF.out HAT2.out
      go_wp2_with fail
      go_meet
      exact ⟨_, _, _, _, hide hend.1, hide hend.2.1, hide hend.2.2⟩
     ·(try rw [hwd])
      go_simp
      obtain ⟨wb, hwb⟩ : ∃ wb, wd.alloc (.cells #[.int .i64 i.k, .int .i64 i.b, .int .i64 i.c, .int .i64 i.v] 84) = wb := ⟨_, rfl⟩
      have hkb : Kept [] wd wb := by rw [← hwb]; exact (Kept.refl [] wd).alloc _
      have hvl : Vals wb [] (some ⟨wd.heap.size, 0, none⟩) i.vals := by rw [← hwb]; exact Vals.lit wd [] _ _ (0, 0) _ rfl (by simp)
      rw [hwb]
      have HVL := hide hvl
      have q9b := hkb.cell q9 (by simp)
      have q8b := hkb.cell q8 (by simp)
      have HKB := hide hkb
      clear hkb hvl hwb
      refine hK _ _ (by exact trivial) ?_
      have hHeld := trivial
      clear hK K
      try simp only [Act.put, pA, pB, pC]
      refine hO 5 (some 19) rfl fun K hK => ?_
      (try rw [hwd])
      go_simp
      refine hK.out _ _ (by exact trivial) (fun hHeld => ?_)
      clear hK K
      try simp only [Act.put, pA, pB, pC]
      refine hO 8 (some 22) rfl fun K hK => ?_
      refine wp_append_vals (.tmp 19) (.tmp 21) 105 rfl base 84 item.It.zero.val 4 32 Tryz.underlying105 item_info rfl (by omega) (.slice A its.length c) its.length (valsOf its) rfl (own_keep HOd.out HKB.out (by simp)) [] _ 1 1 i.vals rfl rfl HVL.out (oneCell_It i) (by simp only [maxLen]; omega) (by omega) (by have h1 := HBASE.out; have h2 := HKB.out.size; omega) ?_
      intro v1 we hown1 hk1 hat1
      obtain ⟨g1, c1, rfl⟩ := ownsRow_succ hown1
      have q9c := hk1.cell q9b hvA
      have HOWN1 := hide hown1
      have HKE := hide hk1
      have HAT1 := hide hat1
      clear hown1 hk1 hat1
      try simp only [Act.put, pA, pB, pC]
      refine hK.out _ _ (by exact trivial) (fun hHeld => ?_)
      clear hK K
      try simp only [Act.put, pA, pB, pC]
      refine hO 14 (some 28) rfl fun K hK => ?_
      refine wp_append_vals (.tmp 26) (.tmp 27) 41 rfl base 5 (.int .u8 0) 1 1 Tryz.underlying41 info8w rfl (by omega) (.slice H bl.length e) bl.length (bl.map B) rfl (own_keep (own_keep HBd.out HKB.out (by simp)) HKE.out (fun j hj hm => hAB j hj hm)) [] Bp nb cb (bb.map B) rfl (by rw [List.length_map, HNB.out, Nat.mul_one]) (((HVd.out.kept HKB.out (by simp)).kept HKE.out (fun j hj => hj)).mono (by simp)) (by intro u hu; obtain ⟨y, _, rfl⟩ := List.mem_map.1 hu; rfl) (by simp only [maxLen]; have := HLEN.out; omega) (by have := HLEN.out; omega) (by have h1 := HBASE.out; have h2 := HKB.out.size; have h3 := HKE.out.size; omega) ?_
      intro v2 wf hown2 hk2 hat2
      obtain ⟨H2, e2, rfl, _⟩ := own_slice hown2
      have HOWN2 := hide hown2
      have HKF := hide hk2
      have HAT2 := hide hat2
      have HATf := hide (((HATd.out.keep HKB.out).kept HKE.out hvA).kept hk2 hvB)
      have fzf := Blk.frozen HATf.out
      obtain ⟨s8, s9⟩ := HATf.out.rows
      clear hown2 hk2 hat2
      try simp only [Act.put, pA, pB, pC]
      refine hK.out _ _ (by exact trivial) (fun hHeld => ?_)
      clear hK K
      try simp only [Act.put, pA, pB, pC]
      refine tK 15 29 rfl ?_
      try simp only [Act.put, pA, pB, pC]
      refine tK 16 30 rfl ?_
      try simp only [Act.put, pA, pB, pC]
      refine hO 17 none rfl fun K hK => ?_
      go_simp
      refine hK.out _ _ (by exact trivial) (fun hHeld => ?_)
      clear hK K
      try simp only [Act.put, pA, pB, pC]
      refine tK 18 31 rfl ?_
      try simp only [Act.put, pA, pB, pC]
      refine tK 19 32 rfl ?_
      try simp only [Act.put, pA, pB, pC]
      refine hO 20 none rfl fun K hK => ?_
      go_simp
      refine hK.out _ _ (by exact trivial) (fun hHeld => ?_)
      clear hK K
      try simp only [Act.put, pA, pB, pC]
      refine wpAnyH_done (by kernel_rfl) ?_ _
      refine NoPanic.normal ?_
      have hend := hold_end HS.out HPL.out HNB.out HKW.out HKB.out HOWN1.out HKE.out HAT1.out HOWN2.out HKF.out HAT2.out
      go_wp2_with fail
      go_meet
      exact ⟨_, _, _, _, hide hend.1, hide hend.2.1, hide hend.2.2⟩
   ·(try rw [hwd])
    go_simp
    refine hK _ _ (by exact trivial) ?_
    have hHeld := trivial
    clear hK K
    try simp only [Act.put, pA, pB, pC]
    refine next_two (i := 5) (j := 6) (o := ⟨some 19, _, _, _, _, _⟩) (o' := ⟨some 20, _, _, _, _, _⟩) (by kernel_rfl) rfl (by rfl) rfl (by rfl) (fun K hK => ?_) (fun K hK => ?_)
    ·(try rw [hwd])
     go_simp
     refine hK _ _ (by exact trivial) ?_
     have hHeld := trivial
     clear hK K
     try simp only [Act.put, pA, pB, pC]
     refine hO 6 (some 20) rfl fun K hK => ?_
     (try rw [hwd])
     go_simp
     refine hK.out _ _ (by exact trivial) (fun hHeld => ?_)
     clear hK K
     try simp only [Act.put, pA, pB, pC]
     refine hO 7 (some 21) rfl fun K hK => ?_
     (try rw [hwd])
     go_simp
     obtain ⟨wb, hwb⟩ : ∃ wb, wd.alloc (.cells #[.int .i64 i.k, .int .i64 i.b, .int .i64 i.c, .int .i64 i.v] 84) = wb := ⟨_, rfl⟩
     have hkb : Kept [] wd wb := by rw [← hwb]; exact (Kept.refl [] wd).alloc _
     have hvl : Vals wb [] (some ⟨wd.heap.size, 0, none⟩) i.vals := by rw [← hwb]; exact Vals.lit wd [] _ _ (0, 0) _ rfl (by simp)
     rw [hwb]
     have HVL := hide hvl
     have q9b := hkb.cell q9 (by simp)
     have q8b := hkb.cell q8 (by simp)
     have HKB := hide hkb
     clear hkb hvl hwb
     refine hK.out _ _ (by exact trivial) (fun hHeld => ?_)
     clear hK K
     try simp only [Act.put, pA, pB, pC]
     refine hO 8 (some 22) rfl fun K hK => ?_
     refine wp_append_vals (.tmp 19) (.tmp 21) 105 rfl base 84 item.It.zero.val 4 32 Tryz.underlying105 item_info rfl (by omega) (.slice A its.length c) its.length (valsOf its) rfl (own_keep HOd.out HKB.out (by simp)) [] _ 1 1 i.vals rfl rfl HVL.out (oneCell_It i) (by simp only [maxLen]; omega) (by omega) (by have h1 := HBASE.out; have h2 := HKB.out.size; omega) ?_
     intro v1 we hown1 hk1 hat1
     obtain ⟨g1, c1, rfl⟩ := ownsRow_succ hown1
     have q9c := hk1.cell q9b hvA
     have HOWN1 := hide hown1
     have HKE := hide hk1
     have HAT1 := hide hat1
     clear hown1 hk1 hat1
     try simp only [Act.put, pA, pB, pC]
     refine hK.out _ _ (by exact trivial) (fun hHeld => ?_)
     clear hK K
     try simp only [Act.put, pA, pB, pC]
     refine hO 14 (some 28) rfl fun K hK => ?_
     refine wp_append_vals (.tmp 26) (.tmp 27) 41 rfl base 5 (.int .u8 0) 1 1 Tryz.underlying41 info8w rfl (by omega) (.slice H bl.length e) bl.length (bl.map B) rfl (own_keep (own_keep HBd.out HKB.out (by simp)) HKE.out (fun j hj hm => hAB j hj hm)) [] Bp nb cb (bb.map B) rfl (by rw [List.length_map, HNB.out, Nat.mul_one]) (((HVd.out.kept HKB.out (by simp)).kept HKE.out (fun j hj => hj)).mono (by simp)) (by intro u hu; obtain ⟨y, _, rfl⟩ := List.mem_map.1 hu; rfl) (by simp only [maxLen]; have := HLEN.out; omega) (by have := HLEN.out; omega) (by have h1 := HBASE.out; have h2 := HKB.out.size; have h3 := HKE.out.size; omega) ?_
     intro v2 wf hown2 hk2 hat2
     obtain ⟨H2, e2, rfl, _⟩ := own_slice hown2
     have HOWN2 := hide hown2
     have HKF := hide hk2
     have HAT2 := hide hat2
     have HATf := hide (((HATd.out.keep HKB.out).kept HKE.out hvA).kept hk2 hvB)
     have fzf := Blk.frozen HATf.out
     obtain ⟨s8, s9⟩ := HATf.out.rows
     clear hown2 hk2 hat2
     try simp only [Act.put, pA, pB, pC]
     refine hK.out _ _ (by exact trivial) (fun hHeld => ?_)
     clear hK K
     try simp only [Act.put, pA, pB, pC]
     refine tK 15 29 rfl ?_
     try simp only [Act.put, pA, pB, pC]
     refine tK 16 30 rfl ?_
     try simp only [Act.put, pA, pB, pC]
     refine hO 17 none rfl fun K hK => ?_
     go_simp
     refine hK.out _ _ (by exact trivial) (fun hHeld => ?_)
     clear hK K
     try simp only [Act.put, pA, pB, pC]
     refine tK 18 31 rfl ?_
     try simp only [Act.put, pA, pB, pC]
     refine tK 19 32 rfl ?_
     try simp only [Act.put, pA, pB, pC]
     refine hO 20 none rfl fun K hK => ?_
     go_simp
     refine hK.out _ _ (by exact trivial) (fun hHeld => ?_)
     clear hK K
     try simp only [Act.put, pA, pB, pC]
     refine wpAnyH_done (by kernel_rfl) ?_ _
     refine NoPanic.normal ?_
     have hend := hold_end HS.out HPL.out HNB.out HKW.out HKB.out HOWN1.out HKE.out HAT1.out HOWN2.out HKF.out HAT2.out
     go_wp2_with fail
     go_meet
     exact ⟨_, _, _, _, hide hend.1, hide hend.2.1, hide hend.2.2⟩
    ·(try rw [hwd])
     go_simp
     refine hK _ _ (by exact trivial) ?_
     have hHeld := trivial
     clear hK K
     try simp only [Act.put, pA, pB, pC]
     refine next_two (i := 5) (j := 7) (o := ⟨some 19, _, _, _, _, _⟩) (o' := ⟨some 21, _, _, _, _, _⟩) (by kernel_rfl) rfl (by rfl) rfl (by rfl) (fun K hK => ?_) (fun K hK => ?_)
     ·(try rw [hwd])
      go_simp
      refine hK _ _ (by exact trivial) ?_
      have hHeld := trivial
      clear hK K
      try simp only [Act.put, pA, pB, pC]
      refine hO 7 (some 21) rfl fun K hK => ?_
      (try rw [hwd])
      go_simp
      obtain ⟨wb, hwb⟩ : ∃ wb, wd.alloc (.cells #[.int .i64 i.k, .int .i64 i.b, .int .i64 i.c, .int .i64 i.v] 84) = wb := ⟨_, rfl⟩
      have hkb : Kept [] wd wb := by rw [← hwb]; exact (Kept.refl [] wd).alloc _
      have hvl : Vals wb [] (some ⟨wd.heap.size, 0, none⟩) i.vals := by rw [← hwb]; exact Vals.lit wd [] _ _ (0, 0) _ rfl (by simp)
      rw [hwb]
      have HVL := hide hvl
      have q9b := hkb.cell q9 (by simp)
      have q8b := hkb.cell q8 (by simp)
      have HKB := hide hkb
      clear hkb hvl hwb
      refine hK.out _ _ (by exact trivial) (fun hHeld => ?_)
      clear hK K
      try simp only [Act.put, pA, pB, pC]
      refine hO 8 (some 22) rfl fun K hK => ?_
      refine wp_append_vals (.tmp 19) (.tmp 21) 105 rfl base 84 item.It.zero.val 4 32 Tryz.underlying105 item_info rfl (by omega) (.slice A its.length c) its.length (valsOf its) rfl (own_keep HOd.out HKB.out (by simp)) [] _ 1 1 i.vals rfl rfl HVL.out (oneCell_It i) (by simp only [maxLen]; omega) (by omega) (by have h1 := HBASE.out; have h2 := HKB.out.size; omega) ?_
      intro v1 we hown1 hk1 hat1
      obtain ⟨g1, c1, rfl⟩ := ownsRow_succ hown1
      have q9c := hk1.cell q9b hvA
      have HOWN1 := hide hown1
      have HKE := hide hk1
      have HAT1 := hide hat1
      clear hown1 hk1 hat1
      try simp only [Act.put, pA, pB, pC]
      refine hK.out _ _ (by exact trivial) (fun hHeld => ?_)
      clear hK K
      try simp only [Act.put, pA, pB, pC]
      refine hO 14 (some 28) rfl fun K hK => ?_
      refine wp_append_vals (.tmp 26) (.tmp 27) 41 rfl base 5 (.int .u8 0) 1 1 Tryz.underlying41 info8w rfl (by omega) (.slice H bl.length e) bl.length (bl.map B) rfl (own_keep (own_keep HBd.out HKB.out (by simp)) HKE.out (fun j hj hm => hAB j hj hm)) [] Bp nb cb (bb.map B) rfl (by rw [List.length_map, HNB.out, Nat.mul_one]) (((HVd.out.kept HKB.out (by simp)).kept HKE.out (fun j hj => hj)).mono (by simp)) (by intro u hu; obtain ⟨y, _, rfl⟩ := List.mem_map.1 hu; rfl) (by simp only [maxLen]; have := HLEN.out; omega) (by have := HLEN.out; omega) (by have h1 := HBASE.out; have h2 := HKB.out.size; have h3 := HKE.out.size; omega) ?_
      intro v2 wf hown2 hk2 hat2
      obtain ⟨H2, e2, rfl, _⟩ := own_slice hown2
      have HOWN2 := hide hown2
      have HKF := hide hk2
      have HAT2 := hide hat2
      have HATf := hide (((HATd.out.keep HKB.out).kept HKE.out hvA).kept hk2 hvB)
      have fzf := Blk.frozen HATf.out
      obtain ⟨s8, s9⟩ := HATf.out.rows
      clear hown2 hk2 hat2
      try simp only [Act.put, pA, pB, pC]
      refine hK.out _ _ (by exact trivial) (fun hHeld => ?_)
      clear hK K
      try simp only [Act.put, pA, pB, pC]
      refine tK 15 29 rfl ?_
      try simp only [Act.put, pA, pB, pC]
      refine tK 16 30 rfl ?_
      try simp only [Act.put, pA, pB, pC]
      refine hO 17 none rfl fun K hK => ?_
      go_simp
      refine hK.out _ _ (by exact trivial) (fun hHeld => ?_)
      clear hK K
      try simp only [Act.put, pA, pB, pC]
      refine tK 18 31 rfl ?_
      try simp only [Act.put, pA, pB, pC]
      refine tK 19 32 rfl ?_
      try simp only [Act.put, pA, pB, pC]
      refine hO 20 none rfl fun K hK => ?_
      go_simp
      refine hK.out _ _ (by exact trivial) (fun hHeld => ?_)
      clear hK K
      try simp only [Act.put, pA, pB, pC]
      refine wpAnyH_done (by kernel_rfl) ?_ _
      refine NoPanic.normal ?_
      have hend := hold_end HS.out HPL.out HNB.out HKW.out HKB.out HOWN1.out HKE.out HAT1.out HOWN2.out HKF.out HAT2.out
      go_wp2_with fail
      go_meet
      exact ⟨_, _, _, _, hide hend.1, hide hend.2.1, hide hend.2.2⟩
     ·(try rw [hwd])
      go_simp
      obtain ⟨wb, hwb⟩ : ∃ wb, wd.alloc (.cells #[.int .i64 i.k, .int .i64 i.b, .int .i64 i.c, .int .i64 i.v] 84) = wb := ⟨_, rfl⟩
      have hkb : Kept [] wd wb := by rw [← hwb]; exact (Kept.refl [] wd).alloc _
      have hvl : Vals wb [] (some ⟨wd.heap.size, 0, none⟩) i.vals := by rw [← hwb]; exact Vals.lit wd [] _ _ (0, 0) _ rfl (by simp)
      rw [hwb]
      have HVL := hide hvl
      have q9b := hkb.cell q9 (by simp)
      have q8b := hkb.cell q8 (by simp)
      have HKB := hide hkb
      clear hkb hvl hwb
      refine hK _ _ (by exact trivial) ?_
      have hHeld := trivial
      clear hK K
      try simp only [Act.put, pA, pB, pC]
      refine hO 5 (some 19) rfl fun K hK => ?_
      (try rw [hwd])
      go_simp
      refine hK.out _ _ (by exact trivial) (fun hHeld => ?_)
      clear hK K
      try simp only [Act.put, pA, pB, pC]
      refine hO 8 (some 22) rfl fun K hK => ?_
      refine wp_append_vals (.tmp 19) (.tmp 21) 105 rfl base 84 item.It.zero.val 4 32 Tryz.underlying105 item_info rfl (by omega) (.slice A its.length c) its.length (valsOf its) rfl (own_keep HOd.out HKB.out (by simp)) [] _ 1 1 i.vals rfl rfl HVL.out (oneCell_It i) (by simp only [maxLen]; omega) (by omega) (by have h1 := HBASE.out; have h2 := HKB.out.size; omega) ?_
      intro v1 we hown1 hk1 hat1
      obtain ⟨g1, c1, rfl⟩ := ownsRow_succ hown1
      have q9c := hk1.cell q9b hvA
      have HOWN1 := hide hown1
      have HKE := hide hk1
      have HAT1 := hide hat1
      clear hown1 hk1 hat1
      try simp only [Act.put, pA, pB, pC]
      refine hK.out _ _ (by exact trivial) (fun hHeld => ?_)
      clear hK K
      try simp only [Act.put, pA, pB, pC]
      refine hO 14 (some 28) rfl fun K hK => ?_
      refine wp_append_vals (.tmp 26) (.tmp 27) 41 rfl base 5 (.int .u8 0) 1 1 Tryz.underlying41 info8w rfl (by omega) (.slice H bl.length e) bl.length (bl.map B) rfl (own_keep (own_keep HBd.out HKB.out (by simp)) HKE.out (fun j hj hm => hAB j hj hm)) [] Bp nb cb (bb.map B) rfl (by rw [List.length_map, HNB.out, Nat.mul_one]) (((HVd.out.kept HKB.out (by simp)).kept HKE.out (fun j hj => hj)).mono (by simp)) (by intro u hu; obtain ⟨y, _, rfl⟩ := List.mem_map.1 hu; rfl) (by simp only [maxLen]; have := HLEN.out; omega) (by have := HLEN.out; omega) (by have h1 := HBASE.out; have h2 := HKB.out.size; have h3 := HKE.out.size; omega) ?_
      intro v2 wf hown2 hk2 hat2
      obtain ⟨H2, e2, rfl, _⟩ := own_slice hown2
      have HOWN2 := hide hown2
      have HKF := hide hk2
      have HAT2 := hide hat2
      have HATf := hide (((HATd.out.keep HKB.out).kept HKE.out hvA).kept hk2 hvB)
      have fzf := Blk.frozen HATf.out
      obtain ⟨s8, s9⟩ := HATf.out.rows
      clear hown2 hk2 hat2
      try simp only [Act.put, pA, pB, pC]
      refine hK.out _ _ (by exact trivial) (fun hHeld => ?_)
      clear hK K
      try simp only [Act.put, pA, pB, pC]
      refine tK 15 29 rfl ?_
      try simp only [Act.put, pA, pB, pC]
      refine tK 16 30 rfl ?_
      try simp only [Act.put, pA, pB, pC]
      refine hO 17 none rfl fun K hK => ?_
      go_simp
      refine hK.out _ _ (by exact trivial) (fun hHeld => ?_)
      clear hK K
      try simp only [Act.put, pA, pB, pC]
      refine tK 18 31 rfl ?_
      try simp only [Act.put, pA, pB, pC]
      refine tK 19 32 rfl ?_
      try simp only [Act.put, pA, pB, pC]
      refine hO 20 none rfl fun K hK => ?_
      go_simp
      refine hK.out _ _ (by exact trivial) (fun hHeld => ?_)
      clear hK K
      try simp only [Act.put, pA, pB, pC]
      refine wpAnyH_done (by kernel_rfl) ?_ _
      refine NoPanic.normal ?_
      have hend := hold_end HS.out HPL.out HNB.out HKW.out HKB.out HOWN1.out HKE.out HAT1.out HOWN2.out HKF.out HAT2.out
      go_wp2_with fail
      go_meet
      exact ⟨_, _, _, _, hide hend.1, hide hend.2.1, hide hend.2.2⟩
  case rest =>
   obtain ⟨A2, c2, H2, e2, HWS, HKX, HOX⟩ := hcut
   go_wp2
   go_ret
   exact ⟨rfl, A2, c2, H2, e2, HWS.out, HKX.out, HOX.out⟩
end Go.Proofs.YtolbalafhfpjbaaGreat.wr
