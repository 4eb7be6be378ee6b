/- The reference's Read; NewDisk. -/
import Derived.Test.YteobkgajebbpaaaRDisk
namespace Go.Proofs.Yteobkgajebbpaaa.disk
open Go.RowKit Go.Proofs.Yteobkgajebbpaaa.mem Go.Proofs.Yteobkgajebbpaaa.base

theorem Arr.row {w : World} {b cap : Nat} {bs : List UInt8} (h : Arr w b cap bs) : Row w b 5 (bs.map B) := by
  obtain ⟨cs, h, hz, hl, r⟩ := h
  refine ⟨cs, h, by rw [List.length_map]; omega, fun i v hv => ?_⟩
  rw [List.getElem?_map] at hv
  obtain ⟨x, hx, rfl⟩ := Option.map_eq_some_iff.1 hv
  exact r i x hx
/-- A copy of 64 bytes. -/
theorem part64 (A : Option Addr) (c : Nat) (bs : List UInt8) (w : World) (hv : Vals w [] A (bs.map B)) (hl : bs.length = 64) (hc : 64 ≤ c) :
    Calls Try.prog 37 #[.slice A 64 c, .int .i64 0, .int .i64 64] w fun e w' => ∃ g, e = .returned (sl g) ∧ w.heap.size ≤ g ∧ Row w' g 5 (bs.map B) ∧ Kept [] w w' := by
  refine (part_any A 64 c 0 64 bs w hv hl hc (by omega) (by omega) (by omega) (by omega)).mono fun e w' ⟨g, he, hg, ha, hk⟩ => ⟨g, he, hg, ?_, hk⟩
  have h := Arr.row ha
  have e2 : (bs.drop (0 : Int).toNat).take ((64 : Int) - 0).toNat = bs := by
    show (bs.drop 0).take 64 = bs
    rw [List.drop_zero, List.take_of_length_le (by omega)]
  rw [e2] at h
  exact h

theorem lastOf_take (i : Nat) (c : List UInt8) (l : List (Nat × List UInt8)) (k : Nat) (hk : k < l.length) : lastOf i c (l.take (k + 1)) = if l[k].1 = i then l[k].2 else lastOf i c (l.take k) := by
  unfold lastOf
  rw [List.take_add_one, List.getElem?_eq_getElem hk, Option.toList_some, List.foldl_append]
  rfl

set_option maxRecDepth 100000 in
set_option maxHeartbeats 1000000 in
theorem rread_at (r : Nat) (F : List Nat) (D : Dk) (x : Int) (w : World) (h : RD w F r D) (hb : D.acts ≤ 1000000) : Calls Try.prog 18 #[.pointer (some ⟨r, 0, none⟩), .int .i64 x] w fun e w' =>
    Answers w w' e (D.read x) ∧ Kept [] w w' := by
  obtain ⟨ho, gs, gf, hA, sgs, hgs, cs, cf, hc, fv, lA, lc, h, hF⟩ := h
  have c0 : w.cell? ⟨r, 0, none⟩ = some (.slice (some ⟨gs, 0, none⟩) D.n cs) := h.blk.cell 0
  have c1 : w.cell? ⟨r, 1, none⟩ = some (.slice hA D.held.length hc) := h.blk.cell 1
  have c2 : w.cell? ⟨r, 2, none⟩ = some (.slice (some ⟨gf, 0, none⟩) D.n cf) := h.blk.cell 2
  have c4 : w.cell? ⟨r, 4, none⟩ = some (.bool D.off) := h.blk.cell 4
  have hn1 := ho.n1
  have hn2 := ho.n2
  have hfew : D.held.length ≤ 1000000 := by have := ho.few; omega
  have H := hide h
  have HO := hide ho
  obtain ⟨q, hq⟩ : ∃ q, D.has x = q := ⟨_, rfl⟩
  cases q
  · have e : D.read x = (1, []) := by simp [Dk.read, hq]
    rw [e]
    have HQ := hide hq
    clear e hq h ho hF
    go_enter Try.func18, Try.ntmps18
    go_wp2_with fail
    refine (within_has D x _ (by rfl) _).mono ?_
    rintro e w' ⟨rfl, rfl⟩
    rw [HQ.out]
    go_wp2
    go_ret2
    exact ⟨⟨none, 0, rfl, Fresh.none _ _⟩, Kept.refl _ _⟩
  · have HQ := hide hq
    obtain ⟨i, rfl, hi⟩ := has_nat hq
    have d1 := h.faults.cell (fault_cell D.faults i hi)
    obtain ⟨o, hoff⟩ : ∃ o, D.off = o := ⟨_, rfl⟩
    obtain ⟨f, hflt⟩ : ∃ f, D.faults.getD i false = f := ⟨_, rfl⟩
    rw [hoff] at c4
    rw [hflt] at d1
    have e : D.read i = (if o = true then (3, []) else if f = true then (4, []) else (0, sec D.now i)) := by unfold Dk.read; rw [hq, hoff, Int.toNat_natCast, hflt]; rfl
    rw [e]
    clear e hq hoff hflt h ho hF
    cases o
    · cases f
      · rw [if_neg (by simp), if_neg (by simp)]
        have hsl : i < sgs.length := by rw [H.out.slen]; exact hi
        obtain ⟨g0, hg0⟩ : ∃ g0, sgs[i]? = some g0 := ⟨_, List.getElem?_eq_getElem hsl⟩
        have d0 : w.cell? ⟨gs, i, none⟩ = some (sl g0) := H.out.srow.cell (by rw [List.getElem?_map, hg0]; rfl)
        unfold sl at d0
        have R0 : Hid (Row w g0 5 ((lastOf i (sec D.safe i) (D.held.take 0)).map B)) := hide (H.out.safe i g0 hg0)
        have HE : Hid (sec D.now i = lastOf i (sec D.safe i) D.held) := hide (sec_layH D.n i D.held D.safe HO.out.safe HO.out.held)
        have HSN : Hid ((sec D.now i).length = 64) := hide (sec_length D.now i D.n HO.out.now hi)
        clear hg0 hsl
        go_enter Try.func18, Try.ntmps18
        go_wp2_with fail
        refine (within_has D i _ (by rfl) _).mono ?_
        rintro e w' ⟨rfl, rfl⟩
        rw [HQ.out]
        go_wp2
        go_loop [6, 7] (fun b j => ∃ k g : Nat, k ≤ D.held.length ∧ j = .int .i64 k ∧ b = .slice (some ⟨g, 0, none⟩) 64 64 ∧ Hid (Row w g 5 ((lastOf i (sec D.safe i) (D.held.take k)).map B))) (fun b j => D.held.length - (intOf j).toNat)
        case atStart => exact ⟨0, g0, Nat.zero_le _, rfl, rfl, R0⟩
        case round =>
          obtain ⟨k, g, hk, rfl, rfl, HR⟩ := hrel
          by_cases hlt : k < D.held.length
          · obtain ⟨gh, rfl, hrow, hcl⟩ := own_addr H.out.hrow (by omega)
            obtain ⟨⟨a, bs⟩, hx⟩ : ∃ x : Nat × List UInt8, D.held[k] = x := ⟨_, rfl⟩
            have hxs : D.held[k]? = some (a, bs) := by rw [List.getElem?_eq_getElem hlt, hx]
            obtain ⟨g1, hg1⟩ : ∃ g1, hgs[k]? = some g1 := ⟨_, List.getElem?_eq_getElem (by rw [H.out.hlen]; exact hlt)⟩
            obtain ⟨m1, m2⟩ := hcells_at _ _ H.out.hlen k _ _ hxs hg1
            have e1 := hrow.cell m1
            have e2 := hrow.cell m2
            have HLT : Hid (lastOf i (sec D.safe i) (D.held.take (k + 1)) = if a = i then bs else lastOf i (sec D.safe i) (D.held.take k)) := hide (by rw [lastOf_take _ _ _ _ hlt, hx])
            have R1 : Hid (Row w g1 5 (bs.map B)) := hide (H.out.hdat k g1 _ hg1 hxs)
            unfold I at e1
            unfold sl at e2
            clear hrow hx hxs hg1 m1 m2
            by_cases hai : a = i
            · subst hai
              go_wp2
              exact ⟨⟨k + 1, g1, by omega, by go_num, rfl, hide (by rw [HLT.out, if_pos rfl]; exact R1.out)⟩, by simp [intOf]; omega⟩
            · have hai' : ((a : Int) == (i : Int)) = false := beq_eq_false_iff_ne.2 (by omega)
              have HAI := hide hai
              clear hai
              go_wp2
              exact ⟨⟨k + 1, g, by omega, by go_num, rfl, hide (by rw [HLT.out, if_neg HAI.out]; exact HR.out)⟩, by simp [intOf]; omega⟩
          · obtain rfl : k = D.held.length := by omega
            have HR2 : Hid (Row w g 5 ((sec D.now i).map B)) := hide (by have := HR.out; rw [List.take_of_length_le (Nat.le_refl _), ← HE.out] at this; exact this)
            go_wp2_with fail
            refine (part64 _ 64 (sec D.now i) _ (HR2.out.vals0 (by simp)) HSN.out (by omega)).mono ?_
            rintro e w1 ⟨g2, rfl, hg2, hr2, hk2⟩
            have HR3 := hide hr2
            have HK3 := hide hk2
            clear hr2 hk2
            unfold sl
            go_wp2
            go_ret2
            exact ⟨⟨some ⟨g2, 0, none⟩, 64, ret_err HSN.out.symm, by rw [HSN.out]; exact Row.fresh HR3.out hg2 HSN.out (by omega)⟩, HK3.out⟩
      · rw [if_neg (by simp), if_pos rfl]
        go_enter Try.func18, Try.ntmps18
        go_wp2_with fail
        refine (within_has D i _ (by rfl) _).mono ?_
        rintro e w' ⟨rfl, rfl⟩
        rw [HQ.out]
        go_wp2
        go_ret2
        exact ⟨⟨none, 0, rfl, Fresh.none _ _⟩, Kept.refl _ _⟩
    · rw [if_pos rfl]
      go_enter Try.func18, Try.ntmps18
      go_wp2_with fail
      refine (within_has D i _ (by rfl) _).mono ?_
      rintro e w' ⟨rfl, rfl⟩
      rw [HQ.out]
      go_wp2
      go_ret2
      exact ⟨⟨none, 0, rfl, Fresh.none _ _⟩, Kept.refl _ _⟩

/-- A disk of the reference's that is being made: each sector in a block of its own. -/
structure Out (w0 w : World) (r gs gf n cs cf : Nat) (lA : Option Addr) (lc : Nat) (sgs : List Nat) (S : List UInt8) (fl : List Bool) : Prop where
  blk : Blk w r 55 #[.slice (some ⟨gs, 0, none⟩) n cs, .slice none 0 0, .slice (some ⟨gf, 0, none⟩) n cf, .int .i64 (-1), .bool false, .int .i64 0, .slice lA 0 lc]
  srow : Row w gs 34 (sgs.map sl)
  slen : sgs.length = n
  dup : sgs.Nodup
  safe : ∀ (i g : Nat), sgs[i]? = some g → Row w g 5 ((sec S i).map B)
  faults : Row w gf 4 (fl.map Value.bool)
  slz : S.length = 64 * n
  flz : fl.length = n
  new : ∀ x ∈ r :: gs :: gf :: sgs, w0.heap.size ≤ x
  cs1 : n ≤ cs
  cf1 : n ≤ cf
  lnil : lA = none → lc = 0

theorem Out.kept {w0 w w' : World} {r gs gf n cs cf lc : Nat} {lA : Option Addr} {sgs : List Nat} {S : List UInt8} {fl : List Bool} (h : Out w0 w r gs gf n cs cf lA lc sgs S fl) {T : List Nat} (k : Kept T w w') (hs : ∀ x ∈ r :: gs :: gf :: sgs, x ∉ T) : Out w0 w' r gs gf n cs cf lA lc sgs S fl :=
  ⟨k.blk h.blk (hs _ (by simp)), h.srow.kept k (hs _ (by simp)), h.slen, h.dup, fun i g hg => (h.safe i g hg).kept k (hs _ (by have := getElem?_mem hg; simp [this])), h.faults.kept k (hs _ (by simp)), h.slz, h.flz, h.new, h.cs1, h.cf1, h.lnil⟩

theorem rd_of_out {w0 w : World} {r gs gf n cs cf lc : Nat} {lA : Option Addr} {sgs : List Nat} {S : List UInt8} {fl : List Bool} (h : Out w0 w r gs gf n cs cf lA lc sgs S fl) (h1 : 1 ≤ n) (h2 : n ≤ 4096) : ∃ F, RD w F r ⟨S, [], fl, -1, 0, false⟩ ∧ ∀ x ∈ F, w0.heap.size ≤ x := by
  have hn : Dk.n ⟨S, [], fl, -1, 0, false⟩ = n := h.flz
  refine ⟨_, ⟨⟨by rw [hn]; exact h1, by rw [hn]; exact h2, by rw [hn]; exact h.slz, by simp, by simp, by simp⟩, gs, gf, none, sgs, [], cs, cf, 0, -1, lA, lc, ⟨by rw [hn]; exact h.blk, h.srow, by rw [hn]; exact h.slen, h.safe, ⟨by simp [hcells], .inl ⟨rfl, rfl⟩⟩, rfl, fun i g x hg => by simp at hg, h.faults, by omega, by omega, fun _ => rfl, by rw [hn]; exact h.cs1, by rw [hn]; exact h.cf1, h.lnil⟩, rfl⟩, ?_⟩
  intro x hx
  refine h.new x ?_
  simp [rfeet] at hx
  simp
  exact hx
end Go.Proofs.Yteobkgajebbpaaa.disk
