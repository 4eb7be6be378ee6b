/- The reference's Crash. -/
import Derived.Test.YteobkgajebbpaaaRFlush
import Derived.StillTailTactics
namespace Go.Proofs.Yteobkgajebbpaaa.disk
open Go.RowKit Go.Proofs.Yteobkgajebbpaaa.mem Go.Proofs.Yteobkgajebbpaaa.base

section
variable {w0 w w' : World} {r gs gf n cs cf lc : Nat} {lA : Option Addr} {sgs : List Nat} {S : List UInt8} {fl : List Bool}
/-- Bytes are copied into one sector. -/
theorem Out.upd (h : Out w0 w r gs gf n cs cf lA lc sgs S fl) {i g : Nat} {xs : List UInt8} (hg : sgs[i]? = some g) (hi : i < n) (hx : xs.length ≤ 64) (k : Kept [g] w w') (hr : Row w' g 5 (lay ((sec S i).map B) 0 (xs.map B))) : Out w0 w' r gs gf n cs cf lA lc sgs (lay S (64 * i) xs) fl := by
  have h0 := h.safe i g hg
  have hne : ∀ {y t vs}, Row w y t vs → t ≠ 5 → y ∉ [g] := fun {y t vs} hy ht hm => by
    simp at hm
    subst hm
    exact Row.ne_ hy h0 ht rfl
  refine ⟨k.blk h.blk (hne (Row.of_blk h.blk) (by decide)), h.srow.kept k (hne h.srow (by decide)), h.slen, h.dup, ?_, h.faults.kept k (hne h.faults (by decide)), ?_, h.flz, h.new, h.cs1, h.cf1, h.lnil⟩
  · intro j y hy
    by_cases e : i = j
    · subst e
      rw [hg] at hy
      injection hy with hy
      subst hy
      rw [sec_lay_same S i n xs h.slz hi hx, lay_map]
      exact hr
    · rw [sec_lay_other S i j n xs h.slz hi hx e]
      refine (h.safe j y hy).kept k (fun hm => ?_)
      simp at hm
      subst hm
      have h1 := (List.getElem?_inj (List.getElem?_eq_some_iff.1 hg).1 h.dup).1 (hg.trans hy.symm)
      exact e h1
  · rw [lay_length _ _ _ (by have := h.slz; omega)]
    exact h.slz
theorem Out.flt (h : Out w0 w r gs gf n cs cf lA lc sgs S fl) (i : Nat) (b : Bool) : Out w0 (w.drew.setCell ⟨gf, i, none⟩ (.bool b)) r gs gf n cs cf lA lc sgs S (fl.set i b) ∧ Kept [gf] w (w.drew.setCell ⟨gf, i, none⟩ (.bool b)) := by
  have k : Kept [gf] w (w.drew.setCell ⟨gf, i, none⟩ (.bool b)) := ((Kept.refl [gf] w).drew).set_ (.inl (by simp)) _ _
  have hne : ∀ {y t vs}, Row w y t vs → t ≠ 4 → y ∉ [gf] := fun {y t vs} hy ht hm => by
    simp at hm
    subst hm
    exact Row.ne_ hy h.faults ht rfl
  refine ⟨⟨k.blk h.blk (hne (Row.of_blk h.blk) (by decide)), h.srow.kept k (hne h.srow (by decide)), h.slen, h.dup, fun j y hy => (h.safe j y hy).kept k (hne (h.safe j y hy) (by decide)), ?_, h.slz, by simpa using h.flz, h.new, h.cs1, h.cf1, h.lnil⟩, k⟩
  have := h.faults.drew.set_ i (.bool b)
  rw [← List.map_set] at this
  exact this
theorem Out.laid (h : Out w0 w r gs gf n cs cf lA lc sgs S fl) (g c : Nat) : Out w0 (w.setCell ⟨r, 6, none⟩ (.slice (some ⟨g, 0, none⟩) 0 c)) r gs gf n cs cf (some ⟨g, 0, none⟩) c sgs S fl ∧ Kept [r] w (w.setCell ⟨r, 6, none⟩ (.slice (some ⟨g, 0, none⟩) 0 c)) := by
  have k : Kept [r] w (w.setCell ⟨r, 6, none⟩ (.slice (some ⟨g, 0, none⟩) 0 c)) := (Kept.refl [r] w).set_ (.inl (by simp)) _ _
  have hne : ∀ {y t vs}, Row w y t vs → t ≠ 55 → y ∉ [r] := fun {y t vs} hy ht hm => by
    simp at hm
    subst hm
    exact Row.ne_ hy (Row.of_blk h.blk) ht rfl
  refine ⟨⟨?_, h.srow.kept k (hne h.srow (by decide)), h.slen, h.dup, fun j y hy => (h.safe j y hy).kept k (hne (h.safe j y hy) (by decide)), h.faults.kept k (hne h.faults (by decide)), h.slz, h.flz, h.new, h.cs1, h.cf1, (fun e => by cases e)⟩, k⟩
  have := h.blk.set_ 6 (.slice (some ⟨g, 0, none⟩) 0 c)
  simpa using this
end

theorem sec_ext (n : Nat) (S T : List UInt8) (hS : S.length = 64 * n) (hT : T.length = 64 * n) (h : ∀ j, j < n → sec S j = sec T j) : S = T := by
  apply List.ext_getElem?
  intro i
  rcases Nat.lt_or_ge i (64 * n) with hi | hi
  · have h1 := sec_get S (i / 64) (i % 64) (Nat.mod_lt _ (by omega))
    have h2 := sec_get T (i / 64) (i % 64) (Nat.mod_lt _ (by omega))
    have e : 64 * (i / 64) + i % 64 = i := Nat.div_add_mod i 64
    rw [e] at h1 h2
    rw [← h1, ← h2, h _ (by omega)]
  · rw [List.getElem?_eq_none (by omega), List.getElem?_eq_none (by omega)]
theorem lay_self (S : List UInt8) (k : Nat) (xs : List UInt8) (h : xs = []) : lay S k xs = S := by rw [h, lay_nil]

/-- Within the first loop: so many sectors and faults are as they were. -/
def Like (D : Dk) (S : List UInt8) (fl : List Bool) (k : Nat) : Prop := (∀ j, j < k → sec S j = sec D.safe j) ∧ (∀ j, j < k → fl[j]? = D.faults[j]?)
theorem like_step {D : Dk} {S : List UInt8} {fl : List Bool} {k n : Nat} (h : Like D S fl k) (hS : S.length = 64 * n) (hD : D.safe.length = 64 * n) (hf : fl.length = n) (hk : k < n) (hn : D.n = n) : Like D (lay S (64 * k) (sec D.safe k)) (fl.set k (D.faults.getD k false)) (k + 1) := by
  have hl := sec_length D.safe k n hD hk
  refine ⟨fun j hj => ?_, fun j hj => ?_⟩
  · by_cases e : k = j
    · subst e
      rw [sec_one n k S _ hS hk hl]
    · rw [sec_lay_other S k j n _ hS hk (by omega) e]
      exact h.1 j (by omega)
  · rw [List.getElem?_set]
    split
    · rename_i e
      subst e
      rw [if_pos (by omega), List.getD_eq_getElem?_getD, List.getElem?_eq_getElem (by unfold Dk.n at hn; omega)]
      rfl
    · exact h.2 j (by omega)
theorem like_end {D : Dk} {S : List UInt8} {fl : List Bool} {n : Nat} (h : Like D S fl n) (hS : S.length = 64 * n) (hD : D.safe.length = 64 * n) (hf : fl.length = n) (hn : D.n = n) : S = D.safe ∧ fl = D.faults := by
  refine ⟨sec_ext n S D.safe hS hD h.1, ?_⟩
  apply List.ext_getElem?
  intro i
  rcases Nat.lt_or_ge i n with hi | hi
  · exact h.2 i hi
  · rw [List.getElem?_eq_none (by omega), List.getElem?_eq_none (by unfold Dk.n at hn; omega)]

set_option maxRecDepth 100000 in
set_option maxHeartbeats 2000000 in
theorem rcrash_at (p : Nat) (F : List Nat) (D : Dk) (A : Option Addr) (n c : Nat) (l : List Int) (w : World) (h : RD w F p D) (hb : D.acts ≤ 1000000) (hv : Vals w [] A (l.map I)) (hl : l.length = n) (hn : n ≤ 1000000) :
    Calls Try.prog 25 #[.pointer (some ⟨p, 0, none⟩), .slice A n c] w fun e w' => ∃ F' q, e = .returned (.pointer (some ⟨q, 0, none⟩)) ∧ RD w' F' q (D.crash l) ∧ (∀ x ∈ F', w.heap.size ≤ x) ∧ Kept [] w w' := by
  obtain ⟨ho, gs, gf, hA, sgs, hgs, cs, cf, hc, fv, lA, lc, hD, hF⟩ := h
  have c0 : w.cell? ⟨p, 0, none⟩ = some (.slice (some ⟨gs, 0, none⟩) D.n cs) := hD.blk.cell 0
  have c1 : w.cell? ⟨p, 1, none⟩ = some (.slice hA D.held.length hc) := hD.blk.cell 1
  have c2 : w.cell? ⟨p, 2, none⟩ = some (.slice (some ⟨gf, 0, none⟩) D.n cf) := hD.blk.cell 2
  have c6 : w.cell? ⟨p, 6, none⟩ = some (.slice lA 0 lc) := hD.blk.cell 6
  have hpl := hD.blk.lt
  have hfew : D.held.length ≤ 1000000 := by have := ho.few; omega
  have hn1 := ho.n1
  have hn2 := ho.n2
  have HD := hide hD
  have HO := hide ho
  have HV := hide hv
  have HL := hide hl
  have C0 := hide c0
  have C1 := hide c1
  have C2 := hide c2
  clear hD ho hF hb hv hl c1 c2
  go_enter Try.func25, Try.ntmps25
  go_wp2_with fail
  refine (rnew_ok (D.n : Int) D.n rfl _ hn1 hn2).mono ?_
  rintro e w1 ⟨q, gs', gf', cs', sgs', rfl, hout, hk1⟩
  have HOUT := hide hout
  have HK1 := hide hk1
  have c61 := hk1.cell c6 (by simp)
  have q6 : w1.cell? ⟨q, 6, none⟩ = some (.slice none 0 0) := hout.blk.cell 6
  have qf6 := hout.blk.frozen 6
  have hql := hout.blk.lt
  have hpl1 := block_lt_of_cell c61
  clear hout hk1 c6 c0
  go_wp2_with (at_builtin; refine wpList_append_vals rfl (.tmp 18) (.tmp 22) 51 rfl w1.heap.size 34 (.slice none 0 0) 1 24 Try.underlying51 slice_info rfl (by omega) (.slice (some ⟨w1.heap.size, 0, none⟩) 0 0) 0 [] rfl (own_lit w1 _ _) [] lA 0 lc [] rfl rfl (Vals.nil _ _ _) (by simp) (by simp only [maxLen]; omega) (by omega) (by simp) ?_; intro v2 w2 hown2 hk2 hat2; obtain ⟨g2, c2, rfl, _, _, _⟩ := row_of_own hown2 (by rcases hat2 with h | h <;> rw [h] <;> simp [Value.ownBlock]); have HK2 : Hid (Kept [] w1 w2) := hide (((Kept.refl [] w1).alloc (.cells #[] 34)).trans hk2 (fun i hi => .inr (by simp [Value.ownBlock] at hi; omega))); have q62 := HK2.out.cell q6 (by simp); have qf62 := (HOUT.out.kept HK2.out (by simp)).blk.frozen 6; clear hown2 hk2 hat2)
  have HL3 := hide ((HOUT.out.kept HK2.out (by simp)).laid g2 c2)
  have H3 := hide HL3.out.1
  have HK3 : Hid (Kept [] w (w2.setCell ⟨q, 6, none⟩ (.slice (some ⟨g2, 0, none⟩) 0 c2))) := hide (((HK1.out.trans HK2.out (by simp)).trans HL3.out.2 (fun x hx => .inr (HOUT.out.new x (by simp at hx; simp [hx])))))
  clear HL3 HK2 HK1 q62 qf62 q6 qf6 c61 HOUT hql
  generalize w2.setCell ⟨q, 6, none⟩ (.slice (some ⟨g2, 0, none⟩) 0 c2) = w3 at *
  go_wp2
  go_loopw [6] (fun i wr => ∃ (k : Nat) (S : List UInt8) (fl : List Bool), k ≤ D.n ∧ i = .int .i64 k ∧ Hid (Out w wr q gs' gf' D.n cs' D.n (some ⟨g2, 0, none⟩) c2 sgs' S fl) ∧ Hid (Like D S fl k) ∧ Hid (Kept [] w wr)) (fun i wr => D.n - (intOf i).toNat)
  case atStart => exact ⟨0, _, _, Nat.zero_le _, rfl, H3, hide ⟨fun j hj => absurd hj (by omega), fun j hj => absurd hj (by omega)⟩, HK3⟩
  case round =>
    obtain ⟨k, S, fl, hk, rfl, HU, HLK, HKR⟩ := hrel
    have c0 := HKR.out.cell C0.out (by simp)
    clear H3 HK3
    by_cases hlt : k < D.n
    · obtain ⟨gk, hgk⟩ : ∃ gk, sgs'[k]? = some gk := ⟨_, List.getElem?_eq_getElem (by rw [HU.out.slen]; exact hlt)⟩
      obtain ⟨gd, hgd⟩ : ∃ gd, sgs[k]? = some gd := ⟨_, List.getElem?_eq_getElem (by rw [HD.out.slen]; exact hlt)⟩
      have u0 : wr.cell? ⟨q, 0, none⟩ = some (.slice (some ⟨gs', 0, none⟩) D.n cs') := HU.out.blk.cell 0
      have u1 : wr.cell? ⟨gs', k, none⟩ = some (sl gk) := HU.out.srow.cell (by rw [List.getElem?_map, hgk]; rfl)
      have d1 : wr.cell? ⟨gs, k, none⟩ = some (sl gd) := (HD.out.srow.kept HKR.out (by simp)).cell (by rw [List.getElem?_map, hgd]; rfl)
      unfold sl at u1 d1
      have RK := hide (HU.out.safe k gk hgk)
      have VD' : Hid (Vals wr.drew [] (some ⟨gd, 0, none⟩) ((sec D.safe k).map B)) := hide (((HD.out.safe k gd hgd).kept HKR.out (by simp)).drew.vals0 (by simp))
      have HXL : Hid (((sec D.safe k).map B).length = Nat.min 64 64) := hide (by rw [List.length_map, sec_length _ k D.n HO.out.safe hlt]; rfl)
      have HFT : Hid (0 + ((sec D.safe k).map B).length ≤ ((sec S k).map B).length) := hide (by rw [List.length_map, List.length_map, sec_length _ k D.n HO.out.safe hlt, sec_length _ k D.n HU.out.slz hlt]; omega)
      have HGK := hide hgk
      clear hgk hgd
      have gk1 : (0 : Int) ≤ k := by omega
      have gk2 : (k : Int) < D.n := by omega
      go_wp2
      go_still_tail 14, (by kernel_rfl)
      change wpList _ _ _ _ _ (World.drew wr)
      go_wp2_with (
        with_reducible refine wpList_copy_row (o := ⟨some 49, _, _, _, _, _⟩) ?_ (.tmp 41) (.tmp 48) 34 34 5 ?_ Try.underlying34 size8 (some ⟨gk, 0, none⟩) (some ⟨gd, 0, none⟩) 64 64 64 64 ?_ ?_ ((sec D.safe k).map B) HXL.out VD'.out (oneCell_B _) gk 0 5 ((sec S k).map B) RK.out.drew (fun _ => rfl) HFT.out ?_
        · rfl
        · rfl
        · go_simp
        · go_simp
        intro w7 hk7 hr7
        have K7 := hide hk7
        have R7 := hide hr7
        clear hk7 hr7)
      have K7b := hide (((Kept.refl [gk] wr).drew).trans K7.out (fun x hx => .inl hx))
      have HU7 := hide (HU.out.upd HGK.out hlt (by rw [sec_length _ k D.n HO.out.safe hlt]; exact Nat.le_refl _) K7b.out R7.out)
      have HK7 := hide (HKR.out.trans K7b.out (fun x hx => .inr (HU.out.new x (by simp at hx; subst hx; have := getElem?_mem HGK.out; simp [this]))))
      have v2 : w7.cell? ⟨q, 2, none⟩ = some (.slice (some ⟨gf', 0, none⟩) D.n D.n) := HU7.out.blk.cell 2
      have d2 := HK7.out.cell C2.out (by simp)
      have hfl : k < fl.length := by rw [HU.out.flz]; exact hlt
      have v3 := HU7.out.faults.cell (fault_cell fl k hfl)
      have vf := HU7.out.faults.frozen k
      have d3 := (HD.out.faults.kept HK7.out (by simp)).cell (fault_cell D.faults k hlt)
      have HST := hide (HU7.out.flt k (D.faults.getD k false))
      have HLN := hide (like_step HLK.out HU.out.slz HO.out.safe HU.out.flz hlt rfl)
      generalize D.faults.getD k false = fb at *
      generalize fl.getD k false = fo at *
      clear c0 u0 u1 d1 hfl
      go_still_tail 13, (by kernel_rfl)
      change wpList _ _ _ _ _ (World.drew w7)
      go_wp2
      exact ⟨⟨k + 1, _, _, by omega, by go_num, hide HST.out.1, HLN, hide (HK7.out.trans HST.out.2 (fun x hx => .inr (HU.out.new x (by simp at hx; simp [hx]))))⟩, by simp [intOf]; omega⟩
    · obtain rfl : k = D.n := by omega
      have hend := like_end HLK.out HU.out.slz HO.out.safe HU.out.flz rfl
      have HU2 : Hid (Out w wr q gs' gf' D.n cs' D.n (some ⟨g2, 0, none⟩) c2 sgs' (crashK D l 0).1 D.faults) := hide (by have := HU.out; rw [hend.1, hend.2] at this; exact this)
      have HKR0 := hide HKR.out
      clear HLK hend HU HKR
      go_wp2
      clear c0
      go_loopw [7, 8] (fun t i wr => ∃ k : Nat, k ≤ D.held.length ∧ i = .int .i64 k ∧ t = .bool (crashK D l k).2 ∧ Hid (Out w wr q gs' gf' D.n cs' D.n (some ⟨g2, 0, none⟩) c2 sgs' (crashK D l k).1 D.faults) ∧ Hid (Kept [] w wr)) (fun t i wr => D.held.length - (intOf i).toNat)
      case atStart => exact ⟨0, Nat.zero_le _, rfl, rfl, HU2, HKR0⟩
      case round =>
        obtain ⟨k, hk2, rfl, rfl, HU, HKQ⟩ := hrel
        have c1 := HKQ.out.cell C1.out (by simp)
        clear HU2 HKR0
        by_cases hlt : k < D.held.length
        · obtain ⟨gh, rfl, hrow, hcl⟩ := own_addr (own_kept HD.out.hrow HKQ.out (by simp)) (by omega)
          have hm := HO.out.held _ (List.getElem_mem hlt)
          obtain ⟨⟨a, bs⟩, hx⟩ : ∃ x : Nat × List UInt8, D.held[k] = x := ⟨_, rfl⟩
          rw [hx] at hm
          have hxs : D.held[k]? = some (a, bs) := by rw [List.getElem?_eq_getElem hlt, hx]
          have hgdd : D.held.getD k (0, []) = (a, bs) := by rw [List.getD_eq_getElem?_getD, hxs]; rfl
          obtain ⟨g1, hg1⟩ : ∃ g1, hgs[k]? = some g1 := ⟨_, List.getElem?_eq_getElem (by rw [HD.out.hlen]; exact hlt)⟩
          obtain ⟨m1, m2⟩ := hcells_at _ _ HD.out.hlen k _ _ hxs hg1
          have e1 := hrow.cell m1
          have e2 := hrow.cell m2
          unfold I at e1
          unfold sl at e2
          have ga1 : (0 : Int) ≤ a := by omega
          have hai : a < D.n := hm.1
          have ga2 : (a : Int) < D.n := by omega
          have hbl : bs.length = 64 := hm.2
          obtain ⟨⟨s, b⟩, hsb⟩ : ∃ z : List UInt8 × Bool, crashK D l k = z := ⟨_, rfl⟩
          rw [hsb] at HU
          rw [hsb]
          obtain ⟨ga, hga⟩ : ∃ ga, sgs'[a]? = some ga := ⟨_, List.getElem?_eq_getElem (by rw [HU.out.slen]; exact hai)⟩
          have u0 : wr.cell? ⟨q, 0, none⟩ = some (.slice (some ⟨gs', 0, none⟩) D.n cs') := HU.out.blk.cell 0
          have u1 : wr.cell? ⟨gs', a, none⟩ = some (sl ga) := HU.out.srow.cell (by rw [List.getElem?_map, hga]; rfl)
          unfold sl at u1
          have RA := hide (HU.out.safe a ga hga)
          have HGA := hide hga
          have HRB := hide ((HD.out.hdat k g1 _ hg1 hxs).kept HKQ.out (by simp))
          have HBL := hide hbl
          have HAI := hide hai
          have HSA : Hid (((sec s a).map B).length = 64) := hide (by rw [List.length_map]; exact sec_length _ a D.n HU.out.slz hai)
          have hp := pickAt_lt l k
          have hnext : crashK D l (k + 1) = torn (s, b) (a, bs) (pickAt l k) := by
            show torn (crashK D l k) (D.held.getD k (0, [])) (pickAt l k) = _
            rw [hsb, hgdd]
          have HNX := hide hnext
          have HSB := hide hsb
          clear hrow hm hx hxs hgdd hg1 m1 m2 hga hbl hai hnext hsb
          have key : ∀ (u : Nat) (t' : Bool), u ≤ 64 → torn (s, b) (a, bs) (pickAt l k) = (lay s (64 * a) (bs.take u), t') → ∀ w8, Kept [ga] wr.drew w8 → Row w8 ga 5 (lay ((sec s a).map B) 0 ((bs.take u).map B)) → (crashK D l (k + 1)).2 = t' ∧ Hid (Out w w8 q gs' gf' D.n cs' D.n (some ⟨g2, 0, none⟩) c2 sgs' (crashK D l (k + 1)).1 D.faults) ∧ Hid (Kept [] w w8) := by
            intro u t' hu ht w8 hk8 hr8
            have K8 := (((Kept.refl [ga] wr).drew).trans hk8 (fun x hx => .inl hx))
            rw [HNX.out, ht]
            refine ⟨rfl, hide (HU.out.upd HGA.out HAI.out (by rw [List.length_take]; omega) K8 hr8), hide (HKQ.out.trans K8 (fun x hx => .inr (HU.out.new x (by simp at hx; subst hx; have := getElem?_mem HGA.out; simp [this]))))⟩
          have KEY := hide key
          clear key HNX
          have src : ∀ u, u ≤ 64 → Vals wr.drew [] (some ⟨g1, 0, none⟩) ((bs.take u).map B) := fun u hu => by
            have := HRB.out.drew.vals (S := []) (by simp) 0 u
            rw [List.drop_zero, ← List.map_take] at this
            exact this
          have SRC := hide src
          clear src
          by_cases hin : k < n
          · have hkl : k < l.length := by rw [HL.out]; exact hin
            obtain ⟨ad, rfl, _, hc0⟩ := (HV.out.kept HKQ.out (by simp)) k (I l[k]) (by rw [List.getElem?_map, List.getElem?_eq_getElem hkl]; rfl)
            have hpp : (l[k] % 192 : Int) = (pickAt l k : Nat) := by
              unfold pickAt
              rw [List.getD_eq_getElem?_getD, List.getElem?_eq_getElem hkl, Option.getD_some]
              omega
            unfold I at hc0
            generalize l[k] = x at hc0 hpp
            have HPP := hide hpp
            clear hpp hkl
            generalize pickAt l k = P at *
            have gk1 : (0 : Int) ≤ k := by omega
            have gk2 : (k : Int) < n := by omega
            go_wp2_with fail
            refine (mod_any x 192 _ (by omega) (by omega)).mono ?_
            rintro e w5 ⟨rfl, rfl⟩
            rw [HPP.out]
            by_cases hq1 : P % 3 = 1
            · have e3 : (P : Int).tmod 3 = 1 := by rw [Int.tmod_eq_emod_of_nonneg (by omega)]; omega
              have HT : Hid (torn (s, b) (a, bs) P = (lay s (64 * a) (bs.take 64), b)) := hide (by unfold torn; rw [if_pos hq1, List.take_of_length_le (by rw [HBL.out]; exact Nat.le_refl _)])
              clear hq1
              go_wp2
              have HXL : Hid (((bs.take 64).map B).length = Nat.min 64 64) := hide (by rw [List.length_map, List.length_take, HBL.out])
              have HFT : Hid (0 + ((bs.take 64).map B).length ≤ ((sec s a).map B).length) := hide (by rw [HSA.out, List.length_map, List.length_take]; omega)
              go_still_tail 24, (by kernel_rfl)
              change wpList _ _ _ _ _ (World.drew wr)
              go_wp2_with (
                with_reducible refine wpList_copy_row (o := ⟨some 117, _, _, _, _, _⟩) ?_ (.tmp 106) (.tmp 116) 34 34 5 ?_ Try.underlying34 size8 (some ⟨ga, 0, none⟩) (some ⟨g1, 0, none⟩) 64 64 64 64 ?_ ?_ ((bs.take 64).map B) HXL.out (SRC.out 64 (by omega)) (oneCell_B _) ga 0 5 ((sec s a).map B) RA.out.drew (fun _ => rfl) HFT.out ?_
                · rfl
                · rfl
                · go_simp
                · go_simp
                intro w8 hk8 hr8
                have K8 := hide (KEY.out 64 b (by omega) HT.out w8 hk8 hr8)
                clear hk8 hr8)
              exact ⟨⟨k + 1, by omega, by go_num, by rw [K8.out.1], K8.out.2.1, K8.out.2.2⟩, by simp [intOf]; omega⟩
            · by_cases hq2 : P % 3 = 2
              · have e3 : (P : Int).tmod 3 = 2 := by rw [Int.tmod_eq_emod_of_nonneg (by omega)]; omega
                cases b
                · obtain ⟨t, ht⟩ : ∃ t, P / 3 = t := ⟨_, rfl⟩
                  have e4 : (P : Int).tdiv 3 = t := by rw [Int.tdiv_eq_ediv_of_nonneg (by omega)]; omega
                  have e5 : (P : Int) / 3 = t := by omega
                  have e6 : IntKind.i64.wrap (t : Int) = t := IntWalk.i64_in _ (by omega)
                  have ht2 : t < 64 := by omega
                  have ht3 : (0 : Int) ≤ t := by omega
                  have ht4 : (t : Int) ≤ 64 := by omega
                  have HT : Hid (torn (s, false) (a, bs) P = (lay s (64 * a) (bs.take t), true)) := hide (by unfold torn; rw [if_neg hq1, if_pos hq2, ht]; rfl)
                  clear hq1 hq2 ht
                  go_wp2
                  have HXL : Hid (((bs.take t).map B).length = Nat.min t 64) := hide (by rw [List.length_map, List.length_take, HBL.out])
                  have HFT : Hid (0 + ((bs.take t).map B).length ≤ ((sec s a).map B).length) := hide (by rw [HSA.out, List.length_map, List.length_take]; omega)
                  go_still_tail 24, (by kernel_rfl)
                  change wpList _ _ _ _ _ (World.drew wr)
                  go_wp2_with (
                    with_reducible refine wpList_copy_row (o := ⟨some 117, _, _, _, _, _⟩) ?_ (.tmp 106) (.tmp 116) 34 34 5 ?_ Try.underlying34 size8 (some ⟨ga, 0, none⟩) (some ⟨g1, 0, none⟩) 64 64 t 64 ?_ ?_ ((bs.take t).map B) HXL.out (SRC.out t (by omega)) (oneCell_B _) ga 0 5 ((sec s a).map B) RA.out.drew (fun _ => rfl) HFT.out ?_
                    · rfl
                    · rfl
                    · go_simp
                    · go_simp
                    intro w8 hk8 hr8
                    have K8 := hide (KEY.out t true (by omega) HT.out w8 hk8 hr8)
                    clear hk8 hr8)
                  exact ⟨⟨k + 1, by omega, by go_num, by rw [K8.out.1], K8.out.2.1, K8.out.2.2⟩, by simp [intOf]; omega⟩
                · have HT : Hid (torn (s, true) (a, bs) P = (lay s (64 * a) (bs.take 0), true)) := hide (by unfold torn; rw [if_neg hq1, if_pos hq2, List.take_zero, lay_nil]; rfl)
                  clear hq1 hq2
                  go_wp2
                  have HXL : Hid (((bs.take 0).map B).length = Nat.min 0 64) := hide (by rw [List.length_map, List.length_take, HBL.out])
                  have HFT : Hid (0 + ((bs.take 0).map B).length ≤ ((sec s a).map B).length) := hide (by rw [HSA.out, List.length_map, List.length_take]; omega)
                  go_still_tail 24, (by kernel_rfl)
                  change wpList _ _ _ _ _ (World.drew wr)
                  go_wp2_with (
                    with_reducible refine wpList_copy_row (o := ⟨some 117, _, _, _, _, _⟩) ?_ (.tmp 106) (.tmp 116) 34 34 5 ?_ Try.underlying34 size8 (some ⟨ga, 0, none⟩) (some ⟨g1, 0, none⟩) 64 64 0 64 ?_ ?_ ((bs.take 0).map B) HXL.out (SRC.out 0 (by omega)) (oneCell_B _) ga 0 5 ((sec s a).map B) RA.out.drew (fun _ => rfl) HFT.out ?_
                    · rfl
                    · rfl
                    · go_simp
                    · go_simp
                    intro w8 hk8 hr8
                    have K8 := hide (KEY.out 0 true (by omega) HT.out w8 hk8 hr8)
                    clear hk8 hr8)
                  exact ⟨⟨k + 1, by omega, by go_num, by rw [K8.out.1], K8.out.2.1, K8.out.2.2⟩, by simp [intOf]; omega⟩
              · have e3 : (P : Int).tmod 3 = 0 := by rw [Int.tmod_eq_emod_of_nonneg (by omega)]; omega
                have HT : Hid (torn (s, b) (a, bs) P = (lay s (64 * a) (bs.take 0), b)) := hide (by unfold torn; rw [if_neg hq1, if_neg hq2, List.take_zero, lay_nil])
                clear hq1 hq2
                go_wp2
                have HXL : Hid (((bs.take 0).map B).length = Nat.min 0 64) := hide (by rw [List.length_map, List.length_take, HBL.out])
                have HFT : Hid (0 + ((bs.take 0).map B).length ≤ ((sec s a).map B).length) := hide (by rw [HSA.out, List.length_map, List.length_take]; omega)
                go_still_tail 24, (by kernel_rfl)
                change wpList _ _ _ _ _ (World.drew wr)
                go_wp2_with (
                  with_reducible refine wpList_copy_row (o := ⟨some 117, _, _, _, _, _⟩) ?_ (.tmp 106) (.tmp 116) 34 34 5 ?_ Try.underlying34 size8 (some ⟨ga, 0, none⟩) (some ⟨g1, 0, none⟩) 64 64 0 64 ?_ ?_ ((bs.take 0).map B) HXL.out (SRC.out 0 (by omega)) (oneCell_B _) ga 0 5 ((sec s a).map B) RA.out.drew (fun _ => rfl) HFT.out ?_
                  · rfl
                  · rfl
                  · go_simp
                  · go_simp
                  intro w8 hk8 hr8
                  have K8 := hide (KEY.out 0 b (by omega) HT.out w8 hk8 hr8)
                  clear hk8 hr8)
                exact ⟨⟨k + 1, by omega, by go_num, by rw [K8.out.1], K8.out.2.1, K8.out.2.2⟩, by simp [intOf]; omega⟩
          · have h0 : pickAt l k = 0 := by unfold pickAt; rw [List.getD_eq_getElem?_getD, List.getElem?_eq_none (by rw [HL.out]; omega)]; rfl
            rw [h0] at KEY
            clear h0
            have gk3 : (n : Int) ≤ k := by omega
            have HT : Hid (torn (s, b) (a, bs) 0 = (lay s (64 * a) (bs.take 0), b)) := hide (by unfold torn; rw [if_neg (by omega), if_neg (by omega), List.take_zero, lay_nil])
            go_wp2
            have HXL : Hid (((bs.take 0).map B).length = Nat.min 0 64) := hide (by rw [List.length_map, List.length_take, HBL.out])
            have HFT : Hid (0 + ((bs.take 0).map B).length ≤ ((sec s a).map B).length) := hide (by rw [HSA.out, List.length_map, List.length_take]; omega)
            go_still_tail 24, (by kernel_rfl)
            change wpList _ _ _ _ _ (World.drew wr)
            go_wp2_with (
              with_reducible refine wpList_copy_row (o := ⟨some 117, _, _, _, _, _⟩) ?_ (.tmp 106) (.tmp 116) 34 34 5 ?_ Try.underlying34 size8 (some ⟨ga, 0, none⟩) (some ⟨g1, 0, none⟩) 64 64 0 64 ?_ ?_ ((bs.take 0).map B) HXL.out (SRC.out 0 (by omega)) (oneCell_B _) ga 0 5 ((sec s a).map B) RA.out.drew (fun _ => rfl) HFT.out ?_
              · rfl
              · rfl
              · go_simp
              · go_simp
              intro w8 hk8 hr8
              have K8 := hide (KEY.out 0 b (by omega) HT.out w8 hk8 hr8)
              clear hk8 hr8)
            exact ⟨⟨k + 1, by omega, by go_num, by rw [K8.out.1], K8.out.2.1, K8.out.2.2⟩, by simp [intOf]; omega⟩
        · obtain rfl : k = D.held.length := by omega
          go_wp2
          go_ret
          obtain ⟨F', hrd, hF'⟩ := rd_of_out HU.out hn1 hn2
          exact ⟨F', q, rfl, hrd, hF', HKQ.out⟩
end Go.Proofs.Yteobkgajebbpaaa.disk
