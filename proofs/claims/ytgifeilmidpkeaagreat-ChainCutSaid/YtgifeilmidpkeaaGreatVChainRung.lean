import Derived.Test.YtgifeilmidpkeaaGreatVChainLaid
set_option linter.unusedSimpArgs false
set_option linter.unusedVariables false
set_option maxRecDepth 100000
namespace Go.Proofs.YtgifeilmidpkeaaGreat.sc
open Go.RowKit mem base disk geom owns
open record (Rc RcIn RcAt put5 put5_kept cell5)
def kz : Kr := ⟨[], 0, 0, 0, 0⟩
def ringL (e : Nat) : Nat → Nat → Int → List Pt
 | 0, _, _ => []
 | cap + 1, left, sg => if left = 0 then [] else ⟨List.replicate (min left e) kz, sg + 1, false⟩ :: ringL e cap (left - min left e) (sg + 1)
theorem ringL_len (e : Nat) : ∀ (cap left : Nat) (sg : Int), (ringL e cap left sg).length ≤ cap
 | 0, _, _ => by simp [ringL]
 | cap + 1, left, sg => by
  unfold ringL
  split
  ·simp
  ·have := ringL_len e cap (left - min left e) (sg + 1)
   simp only [List.length_cons]
   omega
theorem ringL_few (e : Nat) (he : e ≤ 100) : ∀ (cap left : Nat) (sg : Int), ∀ t ∈ ringL e cap left sg, t.rs.length ≤ 100 ∧ ∀ x ∈ t.rs, x.ks.length ≤ 6 ∧ (-1000 ≤ x.up ∧ x.up ≤ 1000) ∧ (-1000 ≤ x.skew ∧ x.skew ≤ 1000)
 | 0, _, _ => by simp [ringL]
 | cap + 1, left, sg => by
  unfold ringL
  split
  ·simp
  ·intro t ht
   rcases List.mem_cons.1 ht with rfl | ht
   ·refine ⟨by simp; omega, fun x hx => ?_⟩
    rw [List.eq_of_mem_replicate hx]
    simp [kz]
   ·exact ringL_few e he cap _ _ t ht
def zrecs : Nat → List Value
 | 0 => []
 | m + 1 => .slice none 0 0 :: .int .i64 0 :: .int .i64 0 :: .int .i64 0 :: .int .i64 0 :: zrecs m
theorem zrecs_at : ∀ (m i : Nat) (v : Value), (zrecs m)[i]? = some v → i < 5 * m ∧ (#[Value.slice none 0 0, .int .i64 0, .int .i64 0, .int .i64 0, .int .i64 0])[i % 5]? = some v
 | 0, i, v, h => by simp [zrecs] at h
 | m + 1, 0, v, h => by simp [zrecs] at h; subst h; simp
 | m + 1, 1, v, h => by simp [zrecs] at h; subst h; simp; omega
 | m + 1, 2, v, h => by simp [zrecs] at h; subst h; simp; omega
 | m + 1, 3, v, h => by simp [zrecs] at h; subst h; simp; omega
 | m + 1, 4, v, h => by simp [zrecs] at h; subst h; simp; omega
 | m + 1, i + 5, v, h => by
  simp only [zrecs, List.getElem?_cons_succ] at h
  obtain ⟨h1, h2⟩ := zrecs_at m i v h
  exact ⟨by omega, by rw [Nat.add_mod_right]; exact h2⟩
theorem krec_info : (Tryz.prog.info? 129).map (fun i => (i.zero, i.size, i.bytes)) = some (some (.agg #[.slice none 0 0, .int .i64 0, .int .i64 0, .int .i64 0, .int .i64 0]), 5, 56) := by kernel_rfl
theorem part_info : (Tryz.prog.info? 169).map (fun i => (i.zero, i.size, i.bytes)) = some (some (.agg #[.slice none 0 0, .int .i64 0, .bool false]), 3, 40) := by kernel_rfl
theorem krec_cells : (Value.agg #[.slice none 0 0, .int .i64 0, .int .i64 0, .int .i64 0, .int .i64 0]).cells = #[.slice none 0 0, .int .i64 0, .int .i64 0, .int .i64 0, .int .i64 0] := by kernel_rfl
theorem made_recs (m : Nat) (hm : m ≤ 1000) (w : World) :
  (Instr.makeSlice 25 (.int .i64 (m : Int)) (.int .i64 (m : Int))).run Tryz.prog w = .ok (.slice (some ⟨w.heap.size, 0, none⟩) m m) (w.alloc (.cells (madeCells #[.slice none 0 0, .int .i64 0, .int .i64 0, .int .i64 0, .int .i64 0] (m * 5)) 129)) := by
 obtain ⟨i, hi, hzz⟩ := Option.map_eq_some_iff.1 krec_info
 simp only [Prod.mk.injEq] at hzz
 obtain ⟨hz, hs, hb⟩ := hzz
 have hr := run_make (P := Tryz.prog) w 25 129 i _ Tryz.underlying25 hi hz .i64 .i64 m m (by omega) (Int.le_refl _) (by rw [hb]; omega) (by omega)
 rw [hs, Int.toNat_natCast, krec_cells] at hr
 exact hr
theorem vals_recs (m : Nat) (w : World) (S : List Nat) (hS : w.heap.size ∉ S) : Vals (w.alloc (.cells (madeCells #[.slice none 0 0, .int .i64 0, .int .i64 0, .int .i64 0, .int .i64 0] (m * 5)) 129)) S (some ⟨w.heap.size, 0, none⟩) (zrecs m) := by
 refine Vals.blk 0 (Blk.new w _ _) hS (fun i v hv => ?_)
 obtain ⟨h1, h2⟩ := zrecs_at m i v hv
 unfold madeCells
 rw [Nat.zero_add, Array.getElem?_map, Array.getElem?_range, if_pos (by omega), Option.map_some]
 show some ((#[Value.slice none 0 0, .int .i64 0, .int .i64 0, .int .i64 0, .int .i64 0])[i % 5]!) = some v
 rw [getElem!_def, h2]
theorem krin_recs (w : World) (S : List Nat) : ∀ m : Nat, KrIn w S (List.replicate m kz) (zrecs m)
 | 0 => rfl
 | m + 1 => ⟨none, 0, zrecs m, rfl, fun i v h => by simp [kz] at h, krin_recs w S m⟩
theorem PtIn.snoc {w : World} {S : List Nat} {t : Pt} {A : Option Addr} {c : Nat} {vs : List Value} (h2 : Vals w S A vs) (h3 : KrIn w S t.rs vs) : ∀ {l : List Pt} {xs : List Value}, PtIn w S l xs → PtIn w S (l ++ [t]) (xs ++ [.slice A t.rs.length c, .int .i64 t.nx, .bool t.lost])
 | [], xs, h => by
  have h' : xs = [] := h
  subst h'
  exact ⟨A, c, vs, [], rfl, h2, h3, rfl⟩
 | _ :: l, _, ⟨A', c', vs', rest, h1, i2, i3, i4⟩ => by
  subst h1
  exact ⟨A', c', vs', _, rfl, i2, i3, PtIn.snoc h2 h3 i4⟩
structure RgW (wr w : World) (F G : List Nat) (d rd y : Nat) (b s l : Int) (D : Dk) (p : Ps) (v : Value) (pre : List Pt) (xs : List Value) : Prop where
 dd : Dd wr F d G rd D
 c : Blk wr y 29 #[.int .i64 b, .int .i64 s, .int .i64 l]
 p : Blk wr (y + 1) 24 #[.int .i64 p.s, .int .i64 p.o, .int .i64 p.l, .int .i64 p.v, .int .i64 p.m]
 q : Blk wr (y + 1 + 1) 24 #[.int .i64 0, .int .i64 0, .int .i64 0, .int .i64 0, .int .i64 0]
 own : wr.ownsRow (y + 1 + 1 + 1) 169 3 v pre.length xs
 parts : PtIn wr ((F ++ G) ++ v.ownBlock.toList) pre xs
 kept : Kept [] w wr
 size : y + 1 + 1 + 1 ≤ wr.heap.size
theorem RgW.keep {wr wr' w : World} {F G : List Nat} {d rd y : Nat} {b s l : Int} {D : Dk} {p : Ps} {v : Value} {pre : List Pt} {xs : List Value} (h : RgW wr w F G d rd y b s l D p v pre xs) (k : Kept [] wr wr') : RgW wr' w F G d rd y b s l D p v pre xs :=
 ⟨h.dd.kept0 k, k.blk h.c (by simp), k.blk h.p (by simp), k.blk h.q (by simp), own_keep h.own k (by simp), h.parts.kept k (by simp), h.kept.trans k (by simp), Nat.le_trans h.size k.size⟩
theorem RgW.step {wr w1 w : World} {F G : List Nat} {d rd y : Nat} {b s l : Int} {D : Dk} {p : Ps} {v v' : Value} {pre : List Pt} {xs : List Value} {t : Pt} {A : Option Addr} {c : Nat} {vs : List Value} (h : RgW wr w F G d rd y b s l D p v pre xs) (hw : w.heap.size ≤ y) (hFG : ∀ i ∈ F ++ G, i < y)
  (hv : Vals wr ((F ++ G) ++ v.ownBlock.toList) A vs) (hk : KrIn wr ((F ++ G) ++ v.ownBlock.toList) t.rs vs)
  (hown : w1.ownsRow (y + 1 + 1 + 1) 169 3 v' (pre.length + 1) (xs ++ [.slice A t.rs.length c, .int .i64 t.nx, .bool t.lost])) (k : Kept v.ownBlock.toList wr w1) (hat : v'.ownBlock = v.ownBlock ∨ v'.ownBlock = some wr.heap.size) :
  RgW w1 w F G d rd y b s l D p v' (pre ++ [t]) (xs ++ [.slice A t.rs.length c, .int .i64 t.nx, .bool t.lost]) := by
 have hfar : ∀ i ∈ v.ownBlock.toList, y + 1 + 1 + 1 ≤ i := fun i hi => (own_blk h.own i hi).1
 have hsub : ∀ i ∈ v'.ownBlock.toList, i ∈ v.ownBlock.toList ∨ wr.heap.size ≤ i := by
  intro i hi
  rcases hat with h1 | h1
  ·rw [h1] at hi; exact .inl hi
  ·rw [h1] at hi; simp at hi; subst hi; exact .inr (Nat.le_refl _)
 have hfn : ∀ i ∈ F ++ G, i ∉ v.ownBlock.toList := fun i hi hm => by have h1 := hFG i hi; have h2 := hfar i hm; omega
 have hP : PtIn wr ((F ++ G) ++ v.ownBlock.toList) (pre ++ [t]) (xs ++ [.slice A t.rs.length c, .int .i64 t.nx, .bool t.lost]) := PtIn.snoc hv hk h.parts
 have hP2 := ((hP.away (S' := ((F ++ G) ++ v.ownBlock.toList) ++ ((F ++ G) ++ v'.ownBlock.toList)) (fun i hi => (List.mem_append.1 hi).elim .inl (fun hi => (List.mem_append.1 hi).elim (fun h1 => .inl (List.mem_append_left _ h1)) (fun h1 => (hsub i h1).imp (fun h2 => List.mem_append_right _ h2) id)))).kept k (fun i hi => List.mem_append_left _ (List.mem_append_right _ hi))).away (S' := (F ++ G) ++ v'.ownBlock.toList) (fun i hi => .inl (List.mem_append_right _ hi))
 refine ⟨h.dd.kept k (fun i hi => hfn i (List.mem_append_left _ hi)) (fun i hi => hfn i (List.mem_append_right _ hi)), k.blk h.c (fun hm => by have := hfar _ hm; omega), k.blk h.p (fun hm => by have := hfar _ hm; omega), k.blk h.q (fun hm => by have := hfar _ hm; omega), ?_, hP2, ?_, Nat.le_trans h.size k.size⟩
 ·rw [List.length_append]; exact hown
 ·exact h.kept.trans k (fun i hi => .inr (by have := hfar i hi; omega))
set_option maxHeartbeats 8000000 in
theorem ring_any (F G : List Nat) (d rd : Nat) (D : Dk) (p : Ps) (b s l r q : Int) (n e : Nat) (w : World) (h : Dd w F d G rd D) (hR : Reads D) (hf : geom.Rf b s l r q) (hi : 0 ≤ p.s ∧ p.s ≤ s - 1) (hn : 2 + 2 * r + 4 * q + s * l ≤ D.n) (hac : D.acts ≤ 1000)
  (hm : 1 ≤ p.m ∧ p.m ≤ 1050000) (hl : 1 ≤ p.l ∧ p.l ≤ 1050000) (hvv : 0 ≤ p.v ∧ p.v ≤ 4294967295) (hs8 : s ≤ 8) (hn8 : n ≤ 100) (he : 1 ≤ e ∧ e ≤ 100) :
  Calls Tryz.prog 42 #[.pointer (some ⟨d, 0, none⟩), .pointer (some ⟨rd, 0, none⟩), .agg #[.int .i64 b, .int .i64 s, .int .i64 l], .agg #[.int .i64 p.s, .int .i64 p.o, .int .i64 p.l, .int .i64 p.v, .int .i64 p.m], .int .i64 n, .int .i64 e] w fun ex w' => ex = .returned (.tuple #[(laidP s l r q D p (ringL e s.toNat n p.s)).2.val, .bool true]) ∧ DdTo w w' F d G rd (laidP s l r q D p (ringL e s.toNat n p.s)).1 := by
 obtain ⟨y, hy⟩ : ∃ y, w.heap.size = y := ⟨_, rfl⟩
 obtain ⟨w0, hw0⟩ : ∃ w0, ((w.alloc (.cells #[.int .i64 b, .int .i64 s, .int .i64 l] 29)).alloc (.cells #[.int .i64 p.s, .int .i64 p.o, .int .i64 p.l, .int .i64 p.v, .int .i64 p.m] 24)).alloc (.cells #[.int .i64 0, .int .i64 0, .int .i64 0, .int .i64 0, .int .i64 0] 24) = w0 := ⟨_, rfl⟩
 have hk0 : Kept [] w w0 := by rw [← hw0]; exact (((Kept.refl [] w).alloc _).alloc _).alloc _
 have hb7 : Blk w0 y 29 #[.int .i64 b, .int .i64 s, .int .i64 l] := by rw [← hw0, ← hy]; exact ((Blk.new w _ _).alloc _).alloc _
 have hb8 : Blk w0 (y + 1) 24 #[.int .i64 p.s, .int .i64 p.o, .int .i64 p.l, .int .i64 p.v, .int .i64 p.m] := by
  rw [← hw0, ← hy, ← World.size_alloc w (.cells #[.int .i64 b, .int .i64 s, .int .i64 l] 29)]; exact (Blk.new _ _ _).alloc _
 have hb10 : Blk w0 (y + 1 + 1) 24 #[.int .i64 0, .int .i64 0, .int .i64 0, .int .i64 0, .int .i64 0] := by
  rw [← hw0, ← hy, ← World.size_alloc w (.cells #[.int .i64 b, .int .i64 s, .int .i64 l] 29), ← World.size_alloc _ (.cells #[.int .i64 p.s, .int .i64 p.o, .int .i64 p.l, .int .i64 p.v, .int .i64 p.m] 24)]; exact Blk.new _ _ _
 have hsz0 : w0.heap.size = y + 1 + 1 + 1 := by rw [← hw0, World.size_alloc, World.size_alloc, World.size_alloc, hy]
 have HLT := hide (show ∀ i ∈ F ++ G, i < y by intro i hi; have := h.lt i hi; omega)
 have HRG : Hid (RgW w0 w F G d rd y b s l D p (.slice none 0 0) [] []) := hide ⟨h.kept0 hk0, hb7, hb8, hb10, World.ownsRow_nil _ _ _ _, rfl, hk0, by omega⟩
 have HWY := hide (Nat.le_of_eq hy)
 have HF := hide hf
 have HR := hide hR
 have HI := hide hi
 have HNN := hide hn
 have HAC := hide hac
 have HM := hide hm
 have HL := hide hl
 have HVV := hide hvv
 have HE := hide he
 have hok := hf.ok
 unfold geom.Ok at hok
 have HS := hide (show 1 ≤ s ∧ s ≤ 8 by omega)
 obtain ⟨c0, c1, c2⟩ : w0.cell? ⟨y, 0, none⟩ = some (.int .i64 b) ∧ w0.cell? ⟨y, 1, none⟩ = some (.int .i64 s) ∧ w0.cell? ⟨y, 2, none⟩ = some (.int .i64 l) := ⟨hb7.cell 0, hb7.cell 1, hb7.cell 2⟩
 obtain ⟨p0, p1, p2, p3, p4⟩ := cell5 hb8
 obtain ⟨PTS, hpts⟩ : ∃ PTS, ringL e s.toNat n p.s = PTS := ⟨_, rfl⟩
 have HPTS : Seal (([] : List Pt) ++ ringL e s.toNat n p.s = PTS) := sealed hpts
 have HLEN := hide (show PTS.length ≤ 8 by rw [← hpts]; have := ringL_len e s.toNat n p.s; omega)
 have HFEW := hide (show ∀ t ∈ PTS, t.rs.length ≤ 100 ∧ ∀ x ∈ t.rs, x.ks.length ≤ 6 ∧ (-1000 ≤ x.up ∧ x.up ≤ 1000) ∧ (-1000 ≤ x.skew ∧ x.skew ≤ 1000) by rw [← hpts]; exact ringL_few e (by omega) _ _ _)
 have HCAP := hide (show (([] : List Pt).length : Int) + (s.toNat : Int) = s by simp; omega)
 have HSG := hide (show 0 ≤ p.s ∧ p.s + (s.toNat : Int) ≤ 16 by omega)
 rw [hpts]
 obtain ⟨k8, hk8⟩ : ∃ k8, s.toNat = k8 := ⟨_, rfl⟩
 rw [hk8] at HPTS HCAP HSG
 obtain ⟨i0, hii, hz0, hz1, hz2⟩ := info_parts part_info
 clear hk0 hb7 hb8 hb10 h hR hf hi hn hac hm hl hvv hpts hok hk8 hs8
 go_enter Tryz.func42, Tryz.ntmps42
 go_wp2
 clear c0 c1 c2 p0 p1 p2 p3 p4
 go_loopw [14, 15, 16, 17] (fun v left sg kk wr => ∃ (pre : List Pt) (xs : List Value) (lf cap : Nat) (i : Int), left = .int .i64 lf ∧ sg = .int .i64 i ∧ lf ≤ 100 ∧ Hid (RgW wr w F G d rd y b s l D p v pre xs) ∧ Seal (pre ++ ringL e cap lf i = PTS) ∧ Hid ((pre.length : Int) + (cap : Int) = s) ∧ Hid (0 ≤ i ∧ i + (cap : Int) ≤ 16)) (fun v left sg kk wr => (intOf left).toNat)
 case atStart => exact ⟨[], [], n, k8, p.s, rfl, rfl, hn8, HRG, HPTS, HCAP, HSG⟩
 case round =>
  obtain ⟨pre, xs, lf, cap, i, rfl, rfl, hlf, HRr, HPr, HCr, HSr⟩ := hrel
  clear HRG HPTS HCAP HSG
  obtain ⟨A, cc, rfl, hcc, hvs⟩ := own_read HRr.out.own
  by_cases h0 : 0 < lf
  ·have hg : decide ((0 : Int) < (lf : Int)) = true := decide_eq_true (by omega)
   have c1 : wr.cell? ⟨y, 1, none⟩ = some (.int .i64 s) := HRr.out.c.cell 1
   by_cases h1 : 0 < cap
   ·have hg2 : decide ((pre.length : Int) < s) = true := decide_eq_true (by have := HCr.out; omega)
    obtain ⟨cp, rfl⟩ : ∃ cp, cap = cp + 1 := ⟨cap - 1, by omega⟩
    have hw1 : IntKind.i64.wrap (i + 1) = i + 1 := IntWalk.i64_in _ (by have := HSr.out; omega)
    have hw2 : IntKind.i64.wrap ((lf : Int) - (e : Int)) = (lf : Int) - (e : Int) := IntWalk.i64_in _ (by omega)
    have hw3 : IntKind.i64.wrap ((lf : Int) - (lf : Int)) = 0 := by rw [Int.sub_self]; exact IntWalk.i64_in _ (by omega)
    have hmk1 : ∀ w : World, (Instr.makeSlice 25 (.int .i64 (e : Int)) (.int .i64 (e : Int))).run Tryz.prog w = .ok (.slice (some ⟨w.heap.size, 0, none⟩) e e) (w.alloc (.cells (madeCells #[.slice none 0 0, .int .i64 0, .int .i64 0, .int .i64 0, .int .i64 0] (e * 5)) 129)) := fun w => made_recs e (by omega) w
    have hmk2 : ∀ w : World, (Instr.makeSlice 25 (.int .i64 (lf : Int)) (.int .i64 (lf : Int))).run Tryz.prog w = .ok (.slice (some ⟨w.heap.size, 0, none⟩) lf lf) (w.alloc (.cells (madeCells #[.slice none 0 0, .int .i64 0, .int .i64 0, .int .i64 0, .int .i64 0] (lf * 5)) 129)) := fun w => made_recs lf (by omega) w
    have hsz := HRr.out.size
    clear hvs hcc
    have HVL := hide (show ∀ m : Nat, Vals ((wr.alloc (.cells (madeCells #[.slice none 0 0, .int .i64 0, .int .i64 0, .int .i64 0, .int .i64 0] (m * 5)) 129)).alloc (.cells #[.slice (some ⟨wr.heap.size, 0, none⟩) m m, .int .i64 (i + 1), .bool false] 169)) [] (some ⟨wr.heap.size + 1, 0, none⟩) [.slice (some ⟨wr.heap.size, 0, none⟩) m m, .int .i64 (i + 1), .bool false] from fun m => by
     have hz := Vals.lit (wr.alloc (.cells (madeCells #[.slice none 0 0, .int .i64 0, .int .i64 0, .int .i64 0, .int .i64 0] (m * 5)) 129)) [] 169 #[.slice (some ⟨wr.heap.size, 0, none⟩) m m, .int .i64 (i + 1), .bool false] (0, 0) _ rfl (by simp)
     rw [World.size_alloc] at hz
     exact hz)
    have HLN := hide (show pre.length ≤ 8 by have h1 := HCr.out; have h2 := HS.out; omega)
    go_wp2_with (at_builtin; first | (refine wpList_append_vals rfl (.tmp 35) (.tmp 41) 62 rfl (y + 1 + 1 + 1) 169 (.agg #[.slice none 0 0, .int .i64 0, .bool false]) 3 40 Tryz.underlying62 part_info rfl (by omega) (.slice A pre.length cc) pre.length xs rfl (own_keep HRr.out.own (((Kept.refl [] wr).alloc _).alloc _) (by simp)) [] _ 1 1 [.slice (some ⟨wr.heap.size, 0, none⟩) e e, .int .i64 (i + 1), .bool false] rfl rfl (HVL.out _) (by simp [Value.oneCell']) (by have := HLN.out; simp only [maxLen]; omega) (by have := HLN.out; omega) (by rw [World.size_alloc, World.size_alloc]; omega) ?_; intro v1 w1 hown1 hk1 hat1) | (refine wpList_append_vals rfl (.tmp 35) (.tmp 41) 62 rfl (y + 1 + 1 + 1) 169 (.agg #[.slice none 0 0, .int .i64 0, .bool false]) 3 40 Tryz.underlying62 part_info rfl (by omega) (.slice A pre.length cc) pre.length xs rfl (own_keep HRr.out.own (((Kept.refl [] wr).alloc _).alloc _) (by simp)) [] _ 1 1 [.slice (some ⟨wr.heap.size, 0, none⟩) lf lf, .int .i64 (i + 1), .bool false] rfl rfl (HVL.out _) (by simp [Value.oneCell']) (by have := HLN.out; simp only [maxLen]; omega) (by have := HLN.out; omega) (by rw [World.size_alloc, World.size_alloc]; omega) ?_; intro v1 w1 hown1 hk1 hat1))
    ·have hmi : min lf e = e := by omega
     have hkk : Kept [] wr ((wr.alloc (.cells (madeCells #[.slice none 0 0, .int .i64 0, .int .i64 0, .int .i64 0, .int .i64 0] (e * 5)) 129)).alloc (.cells #[.slice (some ⟨wr.heap.size, 0, none⟩) e e, .int .i64 (i + 1), .bool false] 169)) := ((Kept.refl [] wr).alloc _).alloc _
     have hnin : wr.heap.size ∉ (F ++ G) ++ (Value.slice A pre.length cc).ownBlock.toList := fun hm => by
      rcases List.mem_append.1 hm with hm | hm
      ·have h1 := HLT.out _ hm; omega
      ·have h1 := (own_blk HRr.out.own _ hm).2.1; omega
     have hvz := (vals_recs e wr _ hnin).kept ((Kept.refl [] _).alloc (.cells #[.slice (some ⟨wr.heap.size, 0, none⟩) e e, .int .i64 (i + 1), .bool false] 169)) (by simp)
     have hst := (HRr.out.keep hkk).step (t := ⟨List.replicate (min lf e) kz, i + 1, false⟩) (A := some ⟨wr.heap.size, 0, none⟩) (c := e) (v' := v1) (w1 := w1) HWY.out HLT.out hvz (by rw [hmi]; exact krin_recs _ _ _) (by simp only [hmi, List.length_replicate]; exact hown1) hk1 (by simpa [World.size_alloc] using hat1)
     refine ⟨⟨pre ++ [⟨List.replicate (min lf e) kz, i + 1, false⟩], _, lf - e, cp, i + 1, by go_num, rfl, by omega, hide hst, sealed ?_, hide ?_, hide ?_⟩, ?_⟩
     ·rw [← HPr.out, List.append_assoc]
      conv => rhs; unfold ringL
      rw [if_neg (by omega), show lf - min lf e = lf - e by omega]
      rfl
     ·have h1 := HCr.out; rw [List.length_append]; simp; omega
     ·have h1 := HSr.out; omega
     ·simp only [intOf]; omega
    ·have hmi : min lf e = lf := by omega
     have hkk : Kept [] wr ((wr.alloc (.cells (madeCells #[.slice none 0 0, .int .i64 0, .int .i64 0, .int .i64 0, .int .i64 0] (lf * 5)) 129)).alloc (.cells #[.slice (some ⟨wr.heap.size, 0, none⟩) lf lf, .int .i64 (i + 1), .bool false] 169)) := ((Kept.refl [] wr).alloc _).alloc _
     have hnin : wr.heap.size ∉ (F ++ G) ++ (Value.slice A pre.length cc).ownBlock.toList := fun hm => by
      rcases List.mem_append.1 hm with hm | hm
      ·have h1 := HLT.out _ hm; omega
      ·have h1 := (own_blk HRr.out.own _ hm).2.1; omega
     have hvz := (vals_recs lf wr _ hnin).kept ((Kept.refl [] _).alloc (.cells #[.slice (some ⟨wr.heap.size, 0, none⟩) lf lf, .int .i64 (i + 1), .bool false] 169)) (by simp)
     have hst := (HRr.out.keep hkk).step (t := ⟨List.replicate (min lf e) kz, i + 1, false⟩) (A := some ⟨wr.heap.size, 0, none⟩) (c := lf) (v' := v1) (w1 := w1) HWY.out HLT.out hvz (by rw [hmi]; exact krin_recs _ _ _) (by simp only [hmi, List.length_replicate]; exact hown1) hk1 (by simpa [World.size_alloc] using hat1)
     refine ⟨⟨pre ++ [⟨List.replicate (min lf e) kz, i + 1, false⟩], _, 0, cp, i + 1, by go_num, rfl, by omega, hide hst, sealed ?_, hide ?_, hide ?_⟩, ?_⟩
     ·rw [← HPr.out, List.append_assoc]
      conv => rhs; unfold ringL
      rw [if_neg (by omega), show lf - min lf e = 0 by omega]
      rfl
     ·have h1 := HCr.out; rw [List.length_append]; simp; omega
     ·have h1 := HSr.out; omega
     ·simp only [intOf]; omega
   ·have hg2 : decide ((pre.length : Int) < s) = false := decide_eq_false (by have := HCr.out; omega)
    obtain rfl : cap = 0 := by omega
    have hPP : pre = PTS := by rw [← HPr.out]; simp [ringL]
    obtain ⟨c0, c1, c2⟩ : wr.cell? ⟨y, 0, none⟩ = some (.int .i64 b) ∧ wr.cell? ⟨y, 1, none⟩ = some (.int .i64 s) ∧ wr.cell? ⟨y, 2, none⟩ = some (.int .i64 l) := ⟨HRr.out.c.cell 0, HRr.out.c.cell 1, HRr.out.c.cell 2⟩
    obtain ⟨p0, p1, p2, p3, p4⟩ := cell5 HRr.out.p
    subst hPP
    have HVV2 := hide ((hvs : ∀ S : List Nat, _ → _) (F ++ G) (fun i hi => .inl (by have := HLT.out i hi; omega)))
    have HPT2 := hide (HRr.out.parts.away (S' := F ++ G) (fun i hi => .inl (List.mem_append_left _ hi)))
    clear hvs
    go_wp2_with fail
    refine (laid_any F G d rd D p b s l r q A pre.length cc pre xs _ HRr.out.dd HR.out HF.out HI.out HNN.out HAC.out HM.out HL.out HVV.out rfl (by have := HLEN.out; omega) HFEW.out HVV2.out HPT2.out).mono ?_
    obtain ⟨x, hx⟩ : ∃ x, (laidP s l r q D p pre).2 = x := ⟨_, rfl⟩
    obtain ⟨E, hE⟩ : ∃ E, (laidP s l r q D p pre).1 = E := ⟨_, rfl⟩
    rw [hx, hE]
    rintro e1 w5 ⟨rfl, F5, G5, h1, h2, h3⟩
    have HD5 := hide h1
    have HS5 := hide h2
    have HK5 := hide h3
    have HQ5 := hide (h3.blk HRr.out.q (fun hm => by have := HLT.out _ hm; omega))
    obtain ⟨r0, r1, r2, r3, r4⟩ := cell5 HQ5.out
    have fq := HQ5.out.frozen
    clear h1 h2 h3 c0 c1 c2 p0 p1 p2 p3 p4
    have HBA := hide (put5 (.int .i64 x.s) (.int .i64 x.o) (.int .i64 x.l) (.int .i64 x.v) (.int .i64 x.m) HQ5.out)
    have HKA := hide (put5_kept (g := y + 1 + 1) (S := [y + 1 + 1]) (.int .i64 x.s) (.int .i64 x.o) (.int .i64 x.l) (.int .i64 x.v) (.int .i64 x.m) (Kept.refl [y + 1 + 1] w5) (.inl (by simp)))
    unfold Ps.val
    go_wp2
    generalize (((((w5.setCell ⟨y + 1 + 1, 0, none⟩ (.int .i64 x.s)).setCell ⟨y + 1 + 1, 1, none⟩ (.int .i64 x.o)).setCell ⟨y + 1 + 1, 2, none⟩ (.int .i64 x.l)).setCell ⟨y + 1 + 1, 3, none⟩ (.int .i64 x.v)).setCell ⟨y + 1 + 1, 4, none⟩ (.int .i64 x.m)) = wA at HBA HKA ⊢
    obtain ⟨t0, t1, t2, t3, t4⟩ := cell5 HBA.out
    have hnq : y + 1 + 1 ∉ F5 ++ G5 := fun hm => (HS5.out _ hm).elim (fun h => by have := HLT.out _ h; omega) (fun h => by have := HRr.out.size; omega)
    refine bodyPost_ret (v := .tuple #[.agg #[.int .i64 x.s, .int .i64 x.o, .int .i64 x.l, .int .i64 x.v, .int .i64 x.m], .bool true]) (by simp [results, Tryz.results42, go_sem, t0, t1, t2, t3, t4]) rfl ⟨by try rw [hx]; rfl, ?_⟩
    try rw [hE]
    have hww := HWY.out
    exact ⟨F5, G5, HD5.out.kept HKA.out (fun i hi hm => by simp at hm; subst hm; exact hnq (List.mem_append_left _ hi)) (fun i hi hm => by simp at hm; subst hm; exact hnq (List.mem_append_right _ hi)), fun i hi => (HS5.out i hi).imp id (fun h => by have := HRr.out.size; omega), ((HRr.out.kept.mono (S' := F ++ G) (by simp)).trans HK5.out (fun i hi => .inl hi)).trans HKA.out (fun i hi => .inr (by simp at hi; omega))⟩
  ·have hg : decide ((0 : Int) < (lf : Int)) = false := decide_eq_false (by omega)
   obtain rfl : lf = 0 := by omega
   have hPP : pre = PTS := by rw [← HPr.out]; cases cap <;> simp [ringL]
   obtain ⟨c0, c1, c2⟩ : wr.cell? ⟨y, 0, none⟩ = some (.int .i64 b) ∧ wr.cell? ⟨y, 1, none⟩ = some (.int .i64 s) ∧ wr.cell? ⟨y, 2, none⟩ = some (.int .i64 l) := ⟨HRr.out.c.cell 0, HRr.out.c.cell 1, HRr.out.c.cell 2⟩
   obtain ⟨p0, p1, p2, p3, p4⟩ := cell5 HRr.out.p
   subst hPP
   have HVV2 := hide ((hvs : ∀ S : List Nat, _ → _) (F ++ G) (fun i hi => .inl (by have := HLT.out i hi; omega)))
   have HPT2 := hide (HRr.out.parts.away (S' := F ++ G) (fun i hi => .inl (List.mem_append_left _ hi)))
   clear hvs
   go_wp2_with fail
   refine (laid_any F G d rd D p b s l r q A pre.length cc pre xs _ HRr.out.dd HR.out HF.out HI.out HNN.out HAC.out HM.out HL.out HVV.out rfl (by have := HLEN.out; omega) HFEW.out HVV2.out HPT2.out).mono ?_
   obtain ⟨x, hx⟩ : ∃ x, (laidP s l r q D p pre).2 = x := ⟨_, rfl⟩
   obtain ⟨E, hE⟩ : ∃ E, (laidP s l r q D p pre).1 = E := ⟨_, rfl⟩
   rw [hx, hE]
   rintro e1 w5 ⟨rfl, F5, G5, h1, h2, h3⟩
   have HD5 := hide h1
   have HS5 := hide h2
   have HK5 := hide h3
   have HQ5 := hide (h3.blk HRr.out.q (fun hm => by have := HLT.out _ hm; omega))
   obtain ⟨r0, r1, r2, r3, r4⟩ := cell5 HQ5.out
   have fq := HQ5.out.frozen
   clear h1 h2 h3 c0 c1 c2 p0 p1 p2 p3 p4
   have HBA := hide (put5 (.int .i64 x.s) (.int .i64 x.o) (.int .i64 x.l) (.int .i64 x.v) (.int .i64 x.m) HQ5.out)
   have HKA := hide (put5_kept (g := y + 1 + 1) (S := [y + 1 + 1]) (.int .i64 x.s) (.int .i64 x.o) (.int .i64 x.l) (.int .i64 x.v) (.int .i64 x.m) (Kept.refl [y + 1 + 1] w5) (.inl (by simp)))
   unfold Ps.val
   go_wp2
   generalize (((((w5.setCell ⟨y + 1 + 1, 0, none⟩ (.int .i64 x.s)).setCell ⟨y + 1 + 1, 1, none⟩ (.int .i64 x.o)).setCell ⟨y + 1 + 1, 2, none⟩ (.int .i64 x.l)).setCell ⟨y + 1 + 1, 3, none⟩ (.int .i64 x.v)).setCell ⟨y + 1 + 1, 4, none⟩ (.int .i64 x.m)) = wA at HBA HKA ⊢
   obtain ⟨t0, t1, t2, t3, t4⟩ := cell5 HBA.out
   have hnq : y + 1 + 1 ∉ F5 ++ G5 := fun hm => (HS5.out _ hm).elim (fun h => by have := HLT.out _ h; omega) (fun h => by have := HRr.out.size; omega)
   refine bodyPost_ret (v := .tuple #[.agg #[.int .i64 x.s, .int .i64 x.o, .int .i64 x.l, .int .i64 x.v, .int .i64 x.m], .bool true]) (by simp [results, Tryz.results42, go_sem, t0, t1, t2, t3, t4]) rfl ⟨by try rw [hx]; rfl, ?_⟩
   try rw [hE]
   have hww := HWY.out
   exact ⟨F5, G5, HD5.out.kept HKA.out (fun i hi hm => by simp at hm; subst hm; exact hnq (List.mem_append_left _ hi)) (fun i hi hm => by simp at hm; subst hm; exact hnq (List.mem_append_right _ hi)), fun i hi => (HS5.out i hi).imp id (fun h => by have := HRr.out.size; omega), ((HRr.out.kept.mono (S' := F ++ G) (by simp)).trans HK5.out (fun i hi => .inl hi)).trans HKA.out (fun i hi => .inr (by simp at hi; omega))⟩
end Go.Proofs.YtgifeilmidpkeaaGreat.sc

namespace Go.Proofs.YtgifeilmidpkeaaGreat.sc
open Go.RowKit mem base disk owns geom
open record (Rc RcIn RcAt put5 put5_kept cell5)
theorem cdesk_any (b s l : Int) (w : World) (h : geom.Ok b s l) :
  Calls Tryz.prog 34 #[.agg #[.int .i64 b, .int .i64 s, .int .i64 l]] w fun e w' => ∃ F p G rd g n r q, e = .returned (.tuple #[.pointer (some ⟨p, 0, none⟩), .pointer (some ⟨rd, 0, none⟩), .pointer (some ⟨g, 0, none⟩), .bool true]) ∧ Desk w w' F p G rd g n b s l r q := by
 have hk0 := (Kept.refl [] w).alloc (.cells #[.int .i64 b, .int .i64 s, .int .i64 l] 29)
 have hb0 := Blk.new w 29 #[.int .i64 b, .int .i64 s, .int .i64 l]
 obtain ⟨b4, hb4⟩ : ∃ b4, w.heap.size = b4 := ⟨_, rfl⟩
 rw [hb4] at hb0
 obtain ⟨w1, hw1⟩ : ∃ w1, w.alloc (.cells #[.int .i64 b, .int .i64 s, .int .i64 l] 29) = w1 := ⟨_, rfl⟩
 rw [hw1] at hk0 hb0
 have HB := hide hb0
 have HK := hide hk0
 have H := hide h
 obtain ⟨c0, c1, c2⟩ : w1.cell? ⟨b4, 0, none⟩ = some (.int .i64 b) ∧ w1.cell? ⟨b4, 1, none⟩ = some (.int .i64 s) ∧ w1.cell? ⟨b4, 2, none⟩ = some (.int .i64 l) := ⟨hb0.cell 0, hb0.cell 1, hb0.cell 2⟩
 clear hk0 hb0 h
 go_enter Tryz.func34, Tryz.ntmps34
 go_wp2_with fail
 refine (geom.new_yes b s l _ H.out).mono ?_
 rintro e w2 ⟨g, r, q, rfl, hg, hge, hk2⟩
 have HG := hide hg
 have HGE := hide hge
 have HB2 := hide (hk2.blk HB.out (by simp))
 have HK2 := hide (HK.out.trans hk2 (by simp))
 have HK12 := hide hk2.size
 obtain ⟨d0, d1, d2⟩ : w2.cell? ⟨b4, 0, none⟩ = some (.int .i64 b) ∧ w2.cell? ⟨b4, 1, none⟩ = some (.int .i64 s) ∧ w2.cell? ⟨b4, 2, none⟩ = some (.int .i64 l) := ⟨HB2.out.cell 0, HB2.out.cell 1, HB2.out.cell 2⟩
 clear c0 c1 c2 hg hge hk2
 go_wp2_with fail
 refine (geom.rsectors b s l r q _ HG.out.rf).mono ?_
 rintro e w3 ⟨rfl, hk3⟩
 have hbd := HG.out.bounds
 have hok := HG.out.ok
 unfold geom.Ok at hok
 have hm := geom.mul_le (i := s) (s := s) (l := l) (by omega) (by omega) (by omega) (by omega) (by omega)
 obtain ⟨n, hn⟩ : ∃ n : Nat, (n : Int) = 2 + 2 * r + 4 * q + s * l := ⟨(2 + 2 * r + 4 * q + s * l).toNat, by omega⟩
 have hn1 : 1 ≤ n ∧ n ≤ 4096 := by omega
 have HN := hide hn
 have HG3 := hide (HG.out.kept hk3)
 have HK3 := hide (HK2.out.trans hk3 (by simp))
 have hk3s := hk3.size
 rw [← hn]
 clear hbd hok hm hn hk3
 go_wp2_with fail
 refine (two_at (n : Int) n rfl _ hn1.1 hn1.2).mono ?_
 rintro e w4 ⟨F, p, G, rd, rfl, hpr⟩
 have HP := hide hpr
 clear hpr
 go_wp2
 have hkm := HP.out.a.2.2
 refine bodyPost_ret (v := .tuple #[.pointer (some ⟨p, 0, none⟩), .pointer (some ⟨rd, 0, none⟩), .pointer (some ⟨g, 0, none⟩), .bool true]) (by simp [results, Tryz.results34, go_sem]) rfl ⟨F, p, G, rd, g, n, r, q, rfl, ⟨⟨HP.out.a.1, HP.out.b, HP.out.sep⟩, HN.out, HG3.out.kept hkm, ?_, ?_, HK3.out.trans hkm (by simp)⟩⟩
 ·exact Nat.le_trans HK.out.size HGE.out
 ·intro x hx
  have := HG3.out.lt
  rcases List.mem_append.1 hx with hx | hx
  ·have := HP.out.a.2.1 x hx; omega
  ·have := HP.out.new x hx; omega
end Go.Proofs.YtgifeilmidpkeaaGreat.sc

namespace Go.Proofs.YtgifeilmidpkeaaGreat.sc
open Go.RowKit mem base disk geom
open record (Rc)
section
variable {D D' : Dk} {a z : Int}
theorem gat_same : ∀ (k : Nat), (∀ i : Nat, i < k → D'.read (a + i) = D.read (a + i)) → gat D' a k = gat D a k
 | 0, _ => rfl
 | k + 1, h => by
  have ih := gat_same k (fun i hi => h i (by omega))
  unfold gat
  rw [ih, h k (by omega)]
theorem follow_same (h : ∀ x, a ≤ x → x < a + z → D'.read x = D.read x) (p : Ps) : follow D' a z p = follow D a z p := by
 by_cases h0 : p.o < 1 ∨ z ≤ p.o
 ·unfold follow
  rw [if_pos h0, if_pos h0]
 ·have h1 := h (a + p.o) (by omega) (by omega)
  by_cases h2 : record.sizeOf (D.read (a + p.o)).2 = 0 ∨ z < p.o + record.sizeOf (D.read (a + p.o)).2
  ·unfold follow
   rw [if_neg h0, if_neg h0, h1, if_pos h2, if_pos h2]
  ·have h3 : gat D' (a + p.o) (record.sizeOf (D.read (a + p.o)).2) = gat D (a + p.o) (record.sizeOf (D.read (a + p.o)).2) := gat_same _ (fun i hi => h _ (by omega) (by omega))
   unfold follow
   rw [if_neg h0, if_neg h0, h1, h3]
theorem recs_same (h : ∀ x, a ≤ x → x < a + z → D'.read x = D.read x) : ∀ (f : Nat) (p : Ps), recs D' a z f p = recs D a z f p
 | 0, _ => rfl
 | f + 1, p => by
  unfold recs
  rw [follow_same h p]
  split
  ·rfl
  ·rename_i R sm _ _
   rw [recs_same h f]
theorem scan_same (h : ∀ x, a ≤ x → x < a + z → D'.read x = D.read x) (p : Ps) (hb : Bool) : scanOf D' a z p hb = scanOf D a z p hb := by
 have hs : start D' a z p hb = start D a z p hb := by
  by_cases h0 : p.o ≠ 0
  ·unfold start; rw [if_pos h0, if_pos h0]
  ·by_cases h1 : z ≤ 0
   ·unfold start; rw [if_neg h0, if_neg h0, if_pos h1, if_pos h1]
   ·unfold start
    rw [h a (Int.le_refl _) (by omega)]
 unfold scanOf
 rw [hs]
 split
 ·rfl
 ·rw [recs_same h]
theorem Stand.same (h : ∀ x, a ≤ x → x < a + z → D'.read x = D.read x) {s : Int} {p : Ps} {L : List (Ps × Rc)} {at_ : Ps} {on : Bool} (hs : Stand D a z s p L at_ on) : Stand D' a z s p L at_ on := by
 cases hs with
 | nil => exact .nil
 | snoc pre pk R sm hf => exact .snoc pre pk R sm (by rw [follow_same h]; exact hf)
end
def Alike (D D' : Dk) (s l r q i : Int) : Prop := ∀ x, (ofSeg none s l r q i).2.1 ≤ x → x < (ofSeg none s l r q i).2.1 + (ofSeg none s l r q i).2.2 → D'.read x = D.read x
inductive Way (D : Dk) (s l r q : Int) (p0 : Ps) : List (Ps × Rc) → Ps → List Int → Prop where
 | nil : Way D s l r q p0 [] p0 []
 | snoc (L : List (Ps × Rc)) (at_ : Ps) (V : List Int) (L2 : List (Ps × Rc)) (E at2 : Ps) (h : Way D s l r q p0 L at_ V) (h1 : segOf D s l r q at_ = (L2, E, 0)) (h2 : Stand D (ofSeg none s l r q at_.s).2.1 (ofSeg none s l r q at_.s).2.2 s at_ L2 at2 true) : Way D s l r q p0 (L ++ L2) at2 (at_.s :: V)
theorem Way.same {D D' : Dk} {s l r q : Int} {p0 at_ : Ps} {L : List (Ps × Rc)} {V : List Int} (h : Way D s l r q p0 L at_ V) : (∀ i ∈ V, Alike D D' s l r q i) → Way D' s l r q p0 L at_ V := by
 induction h with
 | nil => exact fun _ => .nil
 | snoc L at_ V L2 E at2 h h1 h2 ih =>
  intro hv
  have ha := hv at_.s (by simp)
  refine .snoc L at_ V L2 E at2 (ih (fun i hi => hv i (by simp [hi]))) ?_ (h2.same ha)
  unfold segOf
  rw [scan_same ha]
  exact h1
theorem Way.logs {D : Dk} {s l r q : Int} {p0 at_ : Ps} {L : List (Ps × Rc)} {V : List Int} (h : Way D s l r q p0 L at_ V) : ∀ {L2 : List (Ps × Rc)} {E : Ps} {err : Int}, Logs D s l r q at_ L2 E err → Logs D s l r q p0 (L ++ L2) E err := by
 induction h with
 | nil => exact fun h => h
 | snoc L at_ V L2 E at2 h h1 h2 ih =>
  intro L3 E3 err h3
  rw [List.append_assoc]
  exact ih (.more at_ L2 E 0 at2 L3 E3 err h1 h2 h3)
theorem kz_len (p : Ps) : lenOf (kmade p kz) = 1 := by
 have h1 := kmade_len p kz
 have h2 : kz.ks.length = 0 := rfl
 unfold lenOf
 omega
theorem seg_run {a : Nat} {z : Int} {p : Ps} : ∀ (m : Nat) {D : Dk} {lo : List (Ps × Rc)} {qe : Ps}, Seg D a z p lo qe → qe.o + m ≤ z - 1 → (1 ≤ qe.m ∧ qe.m ≤ 2000000) → (1 ≤ qe.l ∧ qe.l + m ≤ 2000000) → (0 ≤ qe.v ∧ qe.v ≤ 4294967295) →
  ∃ l', Seg (logD D a z qe (List.replicate m kz)).1 a z p (lo ++ l') (logD D a z qe (List.replicate m kz)).2 ∧ l'.length = m ∧ (∀ y ∈ l', lenOf y.2 = 1) ∧ (logD D a z qe (List.replicate m kz)).2.o = qe.o + m ∧ (logD D a z qe (List.replicate m kz)).2.s = qe.s ∧ (logD D a z qe (List.replicate m kz)).2.l = qe.l + m ∧ (logD D a z qe (List.replicate m kz)).2.m = qe.m ∧
   (0 ≤ (logD D a z qe (List.replicate m kz)).2.v ∧ (logD D a z qe (List.replicate m kz)).2.v ≤ 4294967295) ∧ (logD D a z qe (List.replicate m kz)).1.n = D.n ∧ (∀ i, i < D.n → ((i : Int) < a ∨ a + z ≤ i) → disk.sec (logD D a z qe (List.replicate m kz)).1.now i = disk.sec D.now i)
 | 0, D, lo, qe, h, ho, hm, hl, hv => ⟨[], by simpa [logD] using h, rfl, by simp, by simp [logD], rfl, by simp [logD], rfl, hv, rfl, fun _ _ _ => rfl⟩
 | m + 1, D, lo, qe, h, ho, hm, hl, hv => by
  have hk := kz_len qe
  have hok := kmade_ok qe kz (by omega) (by omega) (by simp [kz])
  obtain ⟨k1, k2, k3⟩ := kplain qe [] 0 hm.1 hl.1 hv
  have hle := h.le
  have hs := sum_le (kmade qe kz)
  have hroom := h.room
  obtain ⟨s1, s2, s3⟩ := h.put (kmade qe kz) hok (fits_of (p := qe) k2 k3 (by show qe.m ≤ (kmade qe kz).m; have : (kmade qe kz).m = qe.m := k1; omega)) (kmade_next qe kz) (by omega)
  obtain ⟨e1, e2, e3, e4, e5⟩ := put_reads h.reads (a + qe.o.toNat) (kmade qe kz).bytes (lenOf (kmade qe kz)) (by omega) (Rc.bytes_len hok)
  rw [Int.natCast_add] at e1 e2 e3 e4 e5
  have hst : logD D a z qe (List.replicate (m + 1) kz) = logD (putD D ((a : Int) + qe.o.toNat) (kmade qe kz).bytes) a z (behind qe (kmade qe kz) (kmade qe kz).sum) (List.replicate m kz) := by
   rw [List.replicate_succ]
   conv => lhs; unfold logD
   rw [if_neg (by omega)]
   unfold behind
   rw [show (kmade qe kz).l = qe.l from k2]
  rw [hst]
  have b1 : (behind qe (kmade qe kz) (kmade qe kz).sum).o = qe.o + 1 := by rw [behind_o, hk]; rfl
  have b2 : (behind qe (kmade qe kz) (kmade qe kz).sum).l = qe.l + 1 := rfl
  have b3 : (behind qe (kmade qe kz) (kmade qe kz).sum).m = qe.m := k1
  have b4 : (behind qe (kmade qe kz) (kmade qe kz).sum).v = (kmade qe kz).sum := rfl
  have b5 : (behind qe (kmade qe kz) (kmade qe kz).sum).s = qe.s := rfl
  obtain ⟨l', i1, i2, i3, i4, i5, i6, i7, i8, i9, i10⟩ := seg_run m s1 (by rw [b1]; omega) (by rw [b3]; exact hm) (by rw [b2]; omega) (by rw [b4]; omega)
  refine ⟨(qe, kmade qe kz) :: l', by simpa using i1, by simp [i2], ?_, by rw [i4, b1]; omega, i5.trans b5, by rw [i6, b2]; omega, by rw [i7, b3], i8, by rw [i9, s2], fun i hi ho2 => ?_⟩
  ·intro y hy
   rcases List.mem_cons.1 hy with rfl | hy
   ·exact hk
   ·exact i3 y hy
  ·rw [i10 i (by rw [s2]; exact hi) ho2, e5 i hi (by omega)]
end Go.Proofs.YtgifeilmidpkeaaGreat.sc

namespace Go.Proofs.YtgifeilmidpkeaaGreat.sc
open Go.RowKit mem base disk geom
open record (Rc)
theorem Chain.recsN {D : Dk} {a : Nat} {z : Int} (hD : Reads D) (hz : (a : Int) + z ≤ D.n) {N : Rc} {sm : Int} (hn : hasNext N = true) : ∀ {l : List (Ps × Rc)} {p q : Ps}, Chain D a z p l q → follow D a z q = (some (N, sm), 0) → 1 ≤ p.o → ∀ f : Nat, z ≤ p.o + f → sc.recs D a z f p = (l ++ [(q, N)], behind q N sm, 0)
 | [], p, q, h, hf, hp, f, hf2 => by
  have h' : q = p := h
  subst h'
  have := follow_in hf
  cases f with
  | zero => omega
  | succ f =>
   unfold sc.recs
   rw [hf]
   dsimp only
   rw [if_pos hn]
   rfl
 | (p₁, R) :: l, p, q, ⟨e1, i1, i2, i3, i4, i5, i6⟩, hf, hp, f, hf2 => by
  obtain rfl : p₁ = p := e1
  have hfo := follow_stands hD a z p₁ R (a + p₁.o.toNat) (by omega) i1 (by omega) i2 i5
  rw [if_pos i3] at hfo
  obtain ⟨f', rfl, hr, h3, h4⟩ := recs_more hfo f (.inr hf2) i4
  have := i6.recsN hD hz hn hf h4 f' (by rw [behind_o] at h3 h4 ⊢; omega)
  rw [hr, this]
  rfl
theorem nextR_has (q : Ps) (v : Int) : hasNext (nextR q v) = true := rfl
theorem stepOn_next (s : Int) (q : Ps) (v : Int) (h : v < s) : stepOn s (behind q (nextR q v) ((nextR q v).sum : Int)) (nextR q v) = (turnTo q v, true) := by
 unfold stepOn
 rw [nextR_next]
 dsimp only
 rw [if_neg (by omega)]
 rfl
theorem seg_turn {D : Dk} {a a2 : Nat} {z s nx : Int} {p qe : Ps} {lo : List (Ps × Rc)} (h : Seg D a z p lo qe) (ho : qe.o ≤ z - 1) (hm : 1 ≤ qe.m ∧ qe.m ≤ 2000000) (hl : 1 ≤ qe.l ∧ qe.l ≤ 2000000) (hv : 0 ≤ qe.v ∧ qe.v ≤ 4294967295) (hnx : 0 ≤ nx ∧ nx ≤ 31) (hns : nx < s)
  (h2 : (a2 : Int) + z ≤ D.n) (hdj : (a : Int) + z ≤ a2 ∨ (a2 : Int) + z ≤ a) (hbl : ∀ i, a2 ≤ i → (i : Int) < a2 + z → disk.sec D.now i = List.replicate 64 0) :
  (turnD D a a2 qe nx true).2 = ⟨nx, 1, qe.l + 1, ((nextR qe nx).sum : Int), qe.m⟩ ∧ (turnD D a a2 qe nx true).1.n = D.n ∧
  (∀ i, i < D.n → ((i : Int) < a ∨ a + z ≤ i) → ((i : Int) < a2 ∨ a2 + z ≤ i) → disk.sec (turnD D a a2 qe nx true).1.now i = disk.sec D.now i) ∧
  Seg (turnD D a a2 qe nx true).1 a2 z ⟨nx, 1, qe.l + 1, ((nextR qe nx).sum : Int), qe.m⟩ [] ⟨nx, 1, qe.l + 1, ((nextR qe nx).sum : Int), qe.m⟩ ∧
  hd.fits (headOf ⟨nx, 1, qe.l + 1, ((nextR qe nx).sum : Int), qe.m⟩).bytes (turnTo qe nx).s (turnTo qe nx).l (turnTo qe nx).v (turnTo qe nx).m = true ∧
  (∀ at_ : Ps, at_.o = 0 → at_.s = p.s → hd.fits (headOf p).bytes at_.s at_.l at_.v at_.m = true →
   scanOf (turnD D a a2 qe nx true).1 a z at_ false = (lo ++ [(qe, nextR qe nx)], behind qe (nextR qe nx) ((nextR qe nx).sum : Int), 0) ∧ Stand (turnD D a a2 qe nx true).1 a z s at_ (lo ++ [(qe, nextR qe nx)]) (turnTo qe nx) true) := by
 have hle := h.le
 have hroom := h.room
 have hsum := sum_le (nextR qe nx)
 have hok : (nextR qe nx).ok := nextR_ok qe nx (by omega) (by omega) hv hnx
 have hlen := nextR_len qe nx
 obtain ⟨e1, e2, e3, e4, e5⟩ := put_reads h.reads (a + qe.o.toNat) (nextR qe nx).bytes 1 (by omega) (Rc.bytes_len hok)
 obtain ⟨D1, hD1⟩ : ∃ D1, putD D ((a + qe.o.toNat : Nat) : Int) (nextR qe nx).bytes = D1 := ⟨_, rfl⟩
 rw [hD1] at e1 e2 e3 e4 e5
 have hmay : (headOf ⟨nx, 1, qe.l + 1, ((nextR qe nx).sum : Int), qe.m⟩).may = true := head_may _ hnx (by dsimp only; omega) (by dsimp only; omega) (by dsimp only; omega)
 obtain ⟨g1, g2, g3, g4, g5⟩ := put_reads e1 a2 (headOf (turnTo qe nx)).bytes 1 (by rw [e2]; omega) (hd.Hd.bytes_len _)
 have ht : turnD D a a2 qe nx true = (putD D1 (a2 : Int) (headOf (turnTo qe nx)).bytes, ⟨nx, 1, qe.l + 1, ((nextR qe nx).sum : Int), qe.m⟩) := by
  unfold turnD
  rw [if_pos rfl, hD1]
 rw [ht]
 dsimp only
 obtain ⟨D2, hD2⟩ : ∃ D2, putD D1 (a2 : Int) (headOf (turnTo qe nx)).bytes = D2 := ⟨_, rfl⟩
 rw [hD2] at g1 g2 g3 g4 g5 ⊢
 have hsecs : ∀ i, i < D.n → ((i : Int) < a ∨ a + z ≤ i) → ((i : Int) < a2 ∨ a2 + z ≤ i) → disk.sec D2.now i = disk.sec D.now i := fun i hi h3 h4 => by
  rw [g5 i (by rw [e2]; exact hi) (by omega), e5 i hi (by omega)]
 refine ⟨rfl, g2.trans e2, hsecs, ⟨g1, by rw [g2, e2]; exact h2, rfl, rfl, by dsimp only; omega, ?_, hmay, fun i h3 h4 => ?_⟩, ?_, fun at_ h3 h4 h5 => ?_⟩
 ·have := g4 0 (by omega)
  rw [Nat.add_zero] at this
  rw [this]
  unfold disk.sec
  rw [Nat.mul_zero, List.drop_zero, List.take_of_length_le (by rw [hd.Hd.bytes_len]; exact Nat.le_refl _)]
  rfl
 ·have h3' : a2 + 1 ≤ i := h3
  rw [g5 i (by rw [e2]; omega) (by omega), e5 i (by omega) (by omega)]
  exact hbl i (by omega) h4
 ·rw [hd.fits_bytes _ hmay]
  simp [headOf, turnTo]
 ·have hch : Chain D2 a z p lo qe := h.chain.same (by have := h.first; omega) (fun i h6 h7 => by rw [g5 i (by rw [e2]; omega) (by omega), e5 i (by omega) (by omega)])
  have hst : StandsAt D2 (a + qe.o.toNat) (nextR qe nx).bytes (lenOf (nextR qe nx)) := fun i hi => by
   rw [hlen] at hi
   rw [g5 _ (by rw [e2]; omega) (by omega)]
   exact e4 i hi
  have hfo := follow_stands g1 a z qe (nextR qe nx) (a + qe.o.toNat) (by omega) (by rw [hlen]; omega) (by rw [g2, e2, hlen]; omega) hok hst
  rw [if_pos (fits_of (p := qe) rfl rfl (Int.le_refl _))] at hfo
  refine ⟨?_, ?_⟩
  ·unfold scanOf
   rw [start_head g1 (by rw [g2, e2]; exact hroom) (by omega) (by rw [g5 a (by rw [e2]; omega) (by omega), e5 a (by omega) (by omega)]; exact h.head) h.may h.first at_ false h3 h4 (.inr h5)]
   dsimp only
   exact hch.recsN g1 (by rw [g2, e2]; exact hroom) (nextR_has qe nx) hfo (by have := h.first; omega) _ (by have := h.first; omega)
  ·have := Stand.snoc (D := D2) (a := (a : Int)) (z := z) (s := s) (p := at_) lo qe (nextR qe nx) _ hfo
   rw [stepOn_next s qe nx hns] at this
   exact this
end Go.Proofs.YtgifeilmidpkeaaGreat.sc

namespace Go.Proofs.YtgifeilmidpkeaaGreat.sc
open Go.RowKit mem base disk geom
open record (Rc)
theorem fst24 {r q i : Int} (hr : 0 ≤ r ∧ 0 ≤ q) (hi : 0 ≤ i) : (fst 24 r q i : Int) = 2 + 2 * r + 4 * q + i * 24 := by
 unfold fst
 omega
theorem of24 {r q i : Int} (hr : 0 ≤ r ∧ 0 ≤ q) (hi : 0 ≤ i ∧ i ≤ 7) : ofSeg none 8 24 r q i = (none, (fst 24 r q i : Int), 24) := by
 rw [ofSeg_in (by omega), fst24 hr hi.1]
theorem alike_of {D D' : Dk} {r q i : Int} (h1 : Reads D) (h2 : Reads D') (hn : D'.n = D.n) (hr : 0 ≤ r ∧ 0 ≤ q) (hi : 0 ≤ i ∧ i ≤ 7) (ht : 2 + 2 * r + 4 * q + 8 * 24 ≤ (D.n : Int)) (hs : ∀ x : Nat, fst 24 r q i ≤ x → (x : Int) < fst 24 r q i + 24 → disk.sec D'.now x = disk.sec D.now x) : Alike D D' 8 24 r q i := by
 intro x hx1 hx2
 rw [of24 hr hi] at hx1 hx2
 dsimp only at hx1 hx2
 have h3 := fst24 (i := i) hr hi.1
 obtain ⟨y, rfl⟩ : ∃ y : Nat, x = (y : Int) := ⟨x.toNat, by omega⟩
 rw [h1.read y (by omega), h2.read y (by omega), hs y (by omega) hx2]
theorem Chain.plain {D : Dk} {a : Nat} {z : Int} : ∀ {l : List (Ps × Rc)} {p q : Ps}, Chain D a z p l q → ∀ y ∈ l, hasNext y.2 = false
 | [], _, _, _ => by simp
 | (_, R) :: l, p, q, ⟨_, _, _, _, i4, _, i6⟩ => by
  intro y hy
  rcases List.mem_cons.1 hy with rfl | hy
  ·exact i4
  ·exact i6.plain y hy
theorem Seg.logs {D : Dk} {r q : Int} {p at_ qe : Ps} {lo : List (Ps × Rc)} (hr : 0 ≤ r ∧ 0 ≤ q) (hp : 0 ≤ p.s ∧ p.s ≤ 7) (h : Seg D (fst 24 r q p.s) 24 p lo qe) (h0 : at_.o = 0) (hs : at_.s = p.s) (hf : hd.fits (headOf p).bytes at_.s at_.l at_.v at_.m = true) : Logs D 8 24 r q at_ lo qe 0 := by
 have ho := of24 hr (i := at_.s) (by omega)
 have ht := h.toldHead at_ false h0 hs (.inr hf)
 rw [← hs] at ht
 have hsg : segOf D 8 24 r q at_ = (lo, qe, 0) := by
  unfold segOf
  rw [ho]
  exact ht
 rcases List.eq_nil_or_concat lo with rfl | ⟨pre, ⟨pk, R⟩, rfl⟩
 ·exact .last at_ [] qe 0 at_ hsg .nil
 ·rw [List.concat_eq_append] at *
  obtain ⟨sm, h1, h2, h3⟩ := scan_end ht rfl
  have hn := h.chain.plain (pk, R) (by simp)
  have hst := Stand.snoc (D := D) (a := (fst 24 r q at_.s : Int)) (z := 24) (s := 8) (p := at_) pre pk R sm h1
  rw [stepOn_none hn] at hst
  refine .last at_ _ qe 0 (behind pk R sm) hsg ?_
  rw [ho]
  exact hst
structure Rung (D : Dk) (r q : Int) (p0 : Ps) (L : List (Ps × Rc)) (E : Ps) (n : Nat) : Prop where
 logs : Logs D 8 24 r q p0 L E 0
 one : ∀ y ∈ L, lenOf y.2 = 1
 reads : Reads D
 size : D.n = n
 off : 1 ≤ E.o ∧ E.o ≤ 23
 seg : 0 ≤ E.s ∧ E.s ≤ 7
 opn : ∀ x, L.getLast? = some x → hasNext x.2 = false
 blank : disk.sec D.now (fst 24 r q E.s + E.o.toNat) = List.replicate 64 0
theorem laidL_told (r q : Int) (hr : 0 ≤ r ∧ 0 ≤ q) (p0 : Ps) (e : Nat) (he : 1 ≤ e ∧ e ≤ 20) : ∀ (cap left : Nat) (sg : Int) (D : Dk) (L : List (Ps × Rc)) (at_ p : Ps) (V : List Int), 0 < left → left ≤ cap * e → cap ≤ 8 → 0 ≤ sg →
  Way D 8 24 r q p0 L at_ V → Seg D (fst 24 r q p.s) 24 p [] p → at_.o = 0 → at_.s = p.s → hd.fits (headOf p).bytes at_.s at_.l at_.v at_.m = true → p.s = sg % 8 → (∀ v ∈ V, ∃ i : Nat, 1 ≤ i ∧ i + cap ≤ 8 ∧ v = (sg - i) % 8) →
  (∀ i : Int, 0 ≤ i ∧ i ≤ 7 → i ∉ V → i ≠ p.s → ∀ x : Nat, fst 24 r q i ≤ x → (x : Int) < fst 24 r q i + 24 → disk.sec D.now x = List.replicate 64 0) →
  2 + 2 * r + 4 * q + 8 * 24 ≤ (D.n : Int) → (1 ≤ p.m ∧ p.m ≤ 1050000) → (1 ≤ p.l ∧ p.l + 30 * cap ≤ 1500000) → (0 ≤ p.v ∧ p.v ≤ 4294967295) → (∀ y ∈ L, lenOf y.2 = 1) →
  ∃ L2, Rung (laidL 8 24 r q D p (ringL e cap left sg)).1 r q p0 (L ++ L2) (laidL 8 24 r q D p (ringL e cap left sg)).2 D.n ∧ L2.length = left + (left - 1) / e ∧ (laidL 8 24 r q D p (ringL e cap left sg)).2.s = (sg + ((left - 1) / e : Nat)) % 8 := by
 intro cap
 induction cap with
 | zero => intro left sg D L at_ p V h0 h1; omega
 | succ cap ih =>
  intro left sg D L at_ p V h0 h1 h8 hsg hw hS ha0 has hf hps hV hfr hn hm hl hv hone
  have hp7 : 0 ≤ p.s ∧ p.s ≤ 7 := by omega
  have hfs := fst24 (i := p.s) hr hp7.1
  have hp1 := hS.first
  rw [Nat.succ_mul] at h1
  unfold ringL
  rw [if_neg (by omega)]
  by_cases hle : left ≤ e
  ·have hmin : min left e = left := by omega
   have hnil : ringL e cap (left - min left e) (sg + 1) = [] := by
    rw [hmin, Nat.sub_self]
    cases cap <;> simp [ringL]
   rw [hnil, hmin]
   have hdiv : (left - 1) / e = 0 := Nat.div_eq_of_lt (by omega)
   obtain ⟨l', i1, i2, i3, i4, i5, i6, i7, i8, i9, i10⟩ := seg_run left hS (by omega) (by omega) (by omega) hv
   have he1 : laidL 8 24 r q D p [⟨List.replicate left kz, sg + 1, false⟩] = logD D (fst 24 r q p.s) 24 p (List.replicate left kz) := rfl
   rw [he1]
   refine ⟨l', ⟨?_, ?_, i1.reads, i9, by omega, by omega, ?_, by rw [i5]; exact i1.blank _ (Nat.le_refl _) (by omega)⟩, by omega, by rw [i5, hdiv]; omega⟩
   ·refine (hw.same (fun i hi => ?_)).logs (Seg.logs hr hp7 i1 ha0 has hf)
    obtain ⟨k, k1, k2, rfl⟩ := hV i hi
    have hne : (sg - (k : Int)) % 8 ≠ p.s := by omega
    have hx := fst24 (i := (sg - (k : Int)) % 8) hr (by omega)
    exact alike_of hS.reads i1.reads i9 hr (by omega) hn (fun x hx1 hx2 => i10 x (by omega) (by omega))
   ·intro y hy
    rcases List.mem_append.1 hy with hy | hy
    ·exact hone y hy
    ·exact i3 y hy
   ·intro x hx
    have hne : l' ≠ [] := fun h => by rw [h] at i2; simp at i2; omega
    rw [List.getLast?_append] at hx
    obtain ⟨y, hy⟩ : ∃ y, l'.getLast? = some y := ⟨_, List.getLast?_eq_some_getLast hne⟩
    rw [hy] at hx
    have hxy : y = x := by simpa using hx
    subst hxy
    exact i1.chain.plain y (by simpa using List.mem_of_getLast? hy)
  ·have hmin : min left e = e := by omega
   rw [hmin]
   have hdiv : (left - 1) / e = (left - e - 1) / e + 1 := by
    rw [show left - 1 = (left - e - 1) + e by omega, Nat.add_div_right _ (by omega)]
   obtain ⟨u, ts, hut⟩ : ∃ u ts, ringL e cap (left - e) (sg + 1) = u :: ts := by
    cases cap with
    | zero => omega
    | succ cap =>
     unfold ringL
     rw [if_neg (by omega)]
     exact ⟨_, _, rfl⟩
   have hcap : 1 ≤ cap := by
    cases cap with
    | zero => simp [ringL] at hut
    | succ cap => omega
   obtain ⟨l', i1, i2, i3, i4, i5, i6, i7, i8, i9, i10⟩ := seg_run e hS (by omega) (by omega) (by omega) hv
   obtain ⟨nx, hnx⟩ : ∃ nx, (sg + 1) % 8 = nx := ⟨_, rfl⟩
   have hnx7 : 0 ≤ nx ∧ nx ≤ 7 := by omega
   have hfn := fst24 (i := nx) hr hnx7.1
   have hnV : nx ∉ V := fun hm2 => by
    obtain ⟨k, k1, k2, k3⟩ := hV nx hm2
    omega
   have hnp : nx ≠ p.s := by omega
   have he1 : laidL 8 24 r q D p (⟨List.replicate e kz, sg + 1, false⟩ :: u :: ts) = laidL 8 24 r q (turnD (logD D (fst 24 r q p.s) 24 p (List.replicate e kz)).1 (fst 24 r q p.s) (fst 24 r q nx) (logD D (fst 24 r q p.s) 24 p (List.replicate e kz)).2 nx true).1 (turnD (logD D (fst 24 r q p.s) 24 p (List.replicate e kz)).1 (fst 24 r q p.s) (fst 24 r q nx) (logD D (fst 24 r q p.s) 24 p (List.replicate e kz)).2 nx true).2 (u :: ts) := by
    rw [laidL, if_neg (by simp), hnx]
   rw [hut, he1, ← hut]
   obtain ⟨D1, hD1⟩ : ∃ D1, (logD D (fst 24 r q p.s) 24 p (List.replicate e kz)).1 = D1 := ⟨_, rfl⟩
   obtain ⟨q1, hq1⟩ : ∃ q1, (logD D (fst 24 r q p.s) 24 p (List.replicate e kz)).2 = q1 := ⟨_, rfl⟩
   rw [hD1] at i1 i9 i10 ⊢
   rw [hq1] at i1 i4 i5 i6 i7 i8 ⊢
   obtain ⟨t1, t2, t3, t4, t5, t6⟩ := seg_turn (s := 8) (nx := nx) (a2 := fst 24 r q nx) i1 (by omega) (by omega) (by omega) i8 (by omega) (by omega) (by omega) (by omega) (fun x hx1 hx2 => by
    rw [i10 x (by omega) (by omega)]
    exact hfr nx hnx7 hnV hnp x hx1 hx2)
   obtain ⟨D2, hD2⟩ : ∃ D2, (turnD D1 (fst 24 r q p.s) (fst 24 r q nx) q1 nx true).1 = D2 := ⟨_, rfl⟩
   rw [hD2] at t2 t3 t4 t6 ⊢
   rw [t1]
   obtain ⟨c1, c2⟩ := t6 at_ ha0 has hf
   have hoff : ofSeg none 8 24 r q at_.s = (none, (fst 24 r q p.s : Int), 24) := by rw [has]; exact of24 hr hp7
   have hsame : ∀ i : Int, 0 ≤ i ∧ i ≤ 7 → i ≠ p.s → i ≠ nx → ∀ x : Nat, fst 24 r q i ≤ x → (x : Int) < fst 24 r q i + 24 → disk.sec D2.now x = disk.sec D.now x := fun i hi h3 h4 x h5 h6 => by
    have hx := fst24 (i := i) hr hi.1
    rw [t3 x (by omega) (by omega) (by omega), i10 x (by omega) (by omega)]
   have hw2 : Way D2 8 24 r q p0 (L ++ (l' ++ [(q1, nextR q1 nx)])) (turnTo q1 nx) (at_.s :: V) := by
    refine .snoc L at_ V _ (behind q1 (nextR q1 nx) ((nextR q1 nx).sum : Int)) _ (hw.same (fun i hi => ?_)) ?_ (by rw [hoff]; exact c2)
    ·obtain ⟨k, k1, k2, rfl⟩ := hV i hi
     exact alike_of hS.reads t4.reads (by omega) hr (by omega) hn (hsame _ (by omega) (by omega) (by omega))
    ·unfold segOf
     rw [hoff]
     exact c1
   have hsum := sum_le (nextR q1 nx)
   obtain ⟨L2, j1, j2, j3⟩ := ih (left - e) (sg + 1) D2 (L ++ (l' ++ [(q1, nextR q1 nx)])) (turnTo q1 nx) ⟨nx, 1, q1.l + 1, ((nextR q1 nx).sum : Int), q1.m⟩ (at_.s :: V) (by omega) (by omega) (by omega) (by omega) hw2 t4 rfl rfl t5 hnx.symm
    (fun v hv2 => by
     rcases List.mem_cons.1 hv2 with rfl | hv2
     ·exact ⟨1, by omega, by omega, by rw [has, hps]; omega⟩
     ·obtain ⟨k, k1, k2, rfl⟩ := hV v hv2
      exact ⟨k + 1, by omega, by omega, by omega⟩)
    (fun i hi h3 h4 x h5 h6 => by
     rw [List.mem_cons, not_or] at h3
     rw [hsame i hi (by omega) h4 x h5 h6]
     exact hfr i hi h3.2 (by omega) x h5 h6)
    (by omega) (by dsimp only; omega) (by dsimp only; omega) (by dsimp only; omega)
    (fun y hy => by
     rcases List.mem_append.1 hy with hy | hy
     ·exact hone y hy
     ·rcases List.mem_append.1 hy with hy | hy
      ·exact i3 y hy
      ·rw [List.mem_singleton.1 hy]; exact nextR_len q1 nx)
   refine ⟨(l' ++ [(q1, nextR q1 nx)]) ++ L2, ?_, ?_, ?_⟩
   ·rw [← List.append_assoc]
    rw [show D.n = D2.n by omega]
    exact j1
   ·rw [List.length_append, List.length_append, j2, hdiv]
    simp
    omega
   ·rw [j3, hdiv]
    omega
end Go.Proofs.YtgifeilmidpkeaaGreat.sc

namespace Go.Proofs.YtgifeilmidpkeaaGreat.sc
open Go.RowKit mem base disk geom
open record (Rc)
theorem head_self (p : Ps) (h : (headOf p).may = true) : hd.fits (headOf p).bytes p.s p.l p.v p.m = true := by
 rw [hd.fits_bytes _ h]
 simp [headOf]
theorem first_seg {r q : Int} (hr : 0 ≤ r ∧ 0 ≤ q) (N : Nat) (hN : (N : Int) = 2 + 2 * r + 4 * q + 8 * 24) (hN2 : N ≤ 4096) (p : Ps) (hp : 0 ≤ p.s ∧ p.s ≤ 7) (hm : 1 ≤ p.m ∧ p.m ≤ 1050000) (hl : 1 ≤ p.l ∧ p.l ≤ 1050000) (hv : 0 ≤ p.v ∧ p.v ≤ 4294967295) :
  Seg (putD (Dk.new N) (fst 24 r q p.s : Int) (headOf p).bytes) (fst 24 r q p.s) 24 ⟨p.s, 1, p.l, p.v, p.m⟩ [] ⟨p.s, 1, p.l, p.v, p.m⟩ ∧ (putD (Dk.new N) (fst 24 r q p.s : Int) (headOf p).bytes).n = N ∧ (headOf ⟨p.s, 1, p.l, p.v, p.m⟩).may = true ∧
  (∀ i : Int, 0 ≤ i ∧ i ≤ 7 → i ≠ p.s → ∀ x : Nat, fst 24 r q i ≤ x → (x : Int) < fst 24 r q i + 24 → disk.sec (putD (Dk.new N) (fst 24 r q p.s : Int) (headOf p).bytes).now x = List.replicate 64 0) := by
 have hfs := fst24 (i := p.s) hr hp.1
 have hmay : (headOf ⟨p.s, 1, p.l, p.v, p.m⟩).may = true := head_may _ (by dsimp only; omega) (by dsimp only; omega) (by dsimp only; omega) hv
 have hn : (Dk.new N).n = N := by unfold Dk.n Dk.new; simp
 obtain ⟨s1, s2, s3⟩ := Seg.new N (fst 24 r q p.s) 24 ⟨p.s, 1, p.l, p.v, p.m⟩ (by omega) hN2 (by omega) (by omega) rfl hmay
 obtain ⟨e1, e2, e3, e4, e5⟩ := put_reads (Reads.new N (by omega) hN2) (fst 24 r q p.s) (headOf p).bytes 1 (by rw [hn]; omega) (hd.Hd.bytes_len _)
 refine ⟨s1, s2, hmay, fun i hi hne x hx1 hx2 => ?_⟩
 have hx := fst24 (i := i) hr hi.1
 rw [e5 x (by rw [hn]; omega) (by omega)]
 exact sec_zeros N x (by omega)
theorem ring_told {r q : Int} (hr : 0 ≤ r ∧ 0 ≤ q) (N : Nat) (hN : (N : Int) = 2 + 2 * r + 4 * q + 8 * 24) (hN2 : N ≤ 4096) (p : Ps) (hp : 0 ≤ p.s ∧ p.s ≤ 7) (ho : p.o = 0) (hm : 1 ≤ p.m ∧ p.m ≤ 1050000) (hl : 1 ≤ p.l ∧ p.l ≤ 1050000) (hv : 0 ≤ p.v ∧ p.v ≤ 4294967295) (k e : Nat) (hk : 0 < k ∧ k ≤ 8 * e) (he : 1 ≤ e ∧ e ≤ 20) :
  ∃ L, Rung (laidP 8 24 r q (Dk.new N) p (ringL e 8 k p.s)).1 r q p L (laidP 8 24 r q (Dk.new N) p (ringL e 8 k p.s)).2 N ∧ L.length = k + (k - 1) / e ∧ (laidP 8 24 r q (Dk.new N) p (ringL e 8 k p.s)).2.s = (p.s + ((k - 1) / e : Nat)) % 8 := by
 obtain ⟨s1, s2, s3, s4⟩ := first_seg hr N hN hN2 p hp hm hl hv
 unfold laidP
 obtain ⟨L2, h1, h2, h3⟩ := laidL_told r q hr p e he 8 k p.s (putD (Dk.new N) (fst 24 r q p.s : Int) (headOf p).bytes) [] p ⟨p.s, 1, p.l, p.v, p.m⟩ [] hk.1 hk.2 (by omega) hp.1 .nil s1 ho rfl (head_self ⟨p.s, 1, p.l, p.v, p.m⟩ s3) (by dsimp only; omega) (by simp)
  (fun i hi _ hne => s4 i hi hne) (by rw [s2]; omega) hm (by dsimp only; omega) hv (by simp)
 rw [s2] at h1
 exact ⟨L2, h1, h2, h3⟩
theorem laidL_more (s l r q : Int) (D : Dk) (p : Ps) (rs : List Kr) (nx : Int) (u : Pt) (ts : List Pt) : laidL s l r q D p (⟨rs, nx, false⟩ :: u :: ts) = laidL s l r q (turnD (logD D (fst l r q p.s) l p rs).1 (fst l r q p.s) (fst l r q (nx % s)) (logD D (fst l r q p.s) l p rs).2 (nx % s) true).1 (turnD (logD D (fst l r q p.s) l p rs).1 (fst l r q p.s) (fst l r q (nx % s)) (logD D (fst l r q p.s) l p rs).2 (nx % s) true).2 (u :: ts) := by
 rw [laidL, if_neg (by simp)]
theorem awake_told {r q : Int} (hr : 0 ≤ r ∧ 0 ≤ q) (N : Nat) (hN : (N : Int) = 2 + 2 * r + 4 * q + 8 * 24) (hN2 : N ≤ 4096) (x : Int) :
  ∃ p1 R1 p2 R2 p3 R3 E, (laidP 8 24 r q (Dk.new N) ⟨2, 0, 5, 9, 1⟩ [⟨[kz], 6, false⟩, ⟨[kz], x, false⟩]).2 = E ∧ Rung (laidP 8 24 r q (Dk.new N) ⟨2, 0, 5, 9, 1⟩ [⟨[kz], 6, false⟩, ⟨[kz], x, false⟩]).1 r q ⟨2, 0, 5, 9, 1⟩ [(p1, R1), (p2, R2), (p3, R3)] E N ∧ p3.s = 6 ∧ p3.o = 1 := by
 obtain ⟨s1, s2, s3, s4⟩ := first_seg hr N hN hN2 ⟨2, 0, 5, 9, 1⟩ (by dsimp only; omega) (by dsimp only; omega) (by dsimp only; omega) (by dsimp only; omega)
 dsimp only at s1 s2 s3 s4
 have f2 := fst24 (i := 2) hr (by omega)
 have f6 := fst24 (i := 6) hr (by omega)
 obtain ⟨D, hD⟩ : ∃ D, putD (Dk.new N) (fst 24 r q 2 : Int) (headOf ⟨2, 0, 5, 9, 1⟩).bytes = D := ⟨_, rfl⟩
 rw [hD] at s1 s2 s4
 have hu : laidP 8 24 r q (Dk.new N) ⟨2, 0, 5, 9, 1⟩ [⟨[kz], 6, false⟩, ⟨[kz], x, false⟩] = laidL 8 24 r q D ⟨2, 1, 5, 9, 1⟩ [⟨[kz], 6, false⟩, ⟨[kz], x, false⟩] := by rw [← hD]; rfl
 rw [hu]
 obtain ⟨l1, i1, i2, i3, i4, i5, i6, i7, i8, i9, i10⟩ := seg_run 1 s1 (by dsimp only; omega) (by dsimp only; omega) (by dsimp only; omega) (by dsimp only; omega)
 have he1 : laidL 8 24 r q D ⟨2, 1, 5, 9, 1⟩ [⟨[kz], 6, false⟩, ⟨[kz], x, false⟩] = laidL 8 24 r q (turnD (logD D (fst 24 r q 2) 24 ⟨2, 1, 5, 9, 1⟩ (List.replicate 1 kz)).1 (fst 24 r q 2) (fst 24 r q 6) (logD D (fst 24 r q 2) 24 ⟨2, 1, 5, 9, 1⟩ (List.replicate 1 kz)).2 6 true).1 (turnD (logD D (fst 24 r q 2) 24 ⟨2, 1, 5, 9, 1⟩ (List.replicate 1 kz)).1 (fst 24 r q 2) (fst 24 r q 6) (logD D (fst 24 r q 2) 24 ⟨2, 1, 5, 9, 1⟩ (List.replicate 1 kz)).2 6 true).2 [⟨[kz], x, false⟩] := by
  exact laidL_more 8 24 r q D ⟨2, 1, 5, 9, 1⟩ [kz] 6 ⟨[kz], x, false⟩ []
 rw [he1]
 dsimp only at i4 i5 i6 i7
 obtain ⟨D1, hD1⟩ : ∃ D1, (logD D (fst 24 r q 2) 24 ⟨2, 1, 5, 9, 1⟩ (List.replicate 1 kz)).1 = D1 := ⟨_, rfl⟩
 obtain ⟨q1, hq1⟩ : ∃ q1, (logD D (fst 24 r q 2) 24 ⟨2, 1, 5, 9, 1⟩ (List.replicate 1 kz)).2 = q1 := ⟨_, rfl⟩
 rw [hD1] at i1 i9 i10 ⊢
 rw [hq1] at i1 i4 i5 i6 i7 i8 ⊢
 obtain ⟨t1, t2, t3, t4, t5, t6⟩ := seg_turn (s := 8) (nx := 6) (a2 := fst 24 r q 6) i1 (by omega) (by omega) (by omega) i8 (by omega) (by omega) (by omega) (by omega) (fun y hy1 hy2 => by
  rw [i10 y (by omega) (by omega)]
  exact s4 6 (by omega) (by omega) y hy1 hy2)
 obtain ⟨D2, hD2⟩ : ∃ D2, (turnD D1 (fst 24 r q 2) (fst 24 r q 6) q1 6 true).1 = D2 := ⟨_, rfl⟩
 rw [hD2] at t2 t3 t4 t6 ⊢
 rw [t1]
 obtain ⟨c1, c2⟩ := t6 ⟨2, 0, 5, 9, 1⟩ rfl rfl (head_self ⟨2, 1, 5, 9, 1⟩ s3)
 have hoff : ofSeg none 8 24 r q 2 = (none, (fst 24 r q 2 : Int), 24) := of24 hr (by omega)
 have hw2 : Way D2 8 24 r q ⟨2, 0, 5, 9, 1⟩ ([] ++ ([] ++ l1 ++ [(q1, nextR q1 6)])) (turnTo q1 6) [2] := by
  refine .snoc [] ⟨2, 0, 5, 9, 1⟩ [] _ (behind q1 (nextR q1 6) ((nextR q1 6).sum : Int)) _ .nil ?_ (by dsimp only; rw [hoff]; exact c2)
  unfold segOf
  dsimp only
  rw [hoff]
  exact c1
 have hsum := sum_le (nextR q1 6)
 obtain ⟨l2, j1, j2, j3, j4, j5, j6, j7, j8, j9, j10⟩ := seg_run 1 t4 (by dsimp only; omega) (by dsimp only; omega) (by dsimp only; omega) (by dsimp only; omega)
 have he2 : laidL 8 24 r q D2 ⟨6, 1, q1.l + 1, ((nextR q1 6).sum : Int), q1.m⟩ [⟨[kz], x, false⟩] = logD D2 (fst 24 r q 6) 24 ⟨6, 1, q1.l + 1, ((nextR q1 6).sum : Int), q1.m⟩ (List.replicate 1 kz) := rfl
 rw [he2]
 have hlog := Seg.logs (r := r) (q := q) (p := ⟨6, 1, q1.l + 1, ((nextR q1 6).sum : Int), q1.m⟩) (at_ := turnTo q1 6) hr (by dsimp only; omega) j1 rfl rfl t5
 have hall := (hw2.same (fun i hi => by
  rw [List.mem_singleton.1 hi]
  exact alike_of t4.reads j1.reads j9 hr (by omega) (by omega) (fun y hy1 hy2 => j10 y (by omega) (by omega)))).logs hlog
 obtain ⟨⟨p1, R1⟩, rfl⟩ := List.length_eq_one_iff.1 i2
 obtain ⟨⟨p3, R3⟩, rfl⟩ := List.length_eq_one_iff.1 j2
 have hp3 : p3 = ⟨6, 1, q1.l + 1, ((nextR q1 6).sum : Int), q1.m⟩ := j1.chain.1
 refine ⟨p1, R1, q1, nextR q1 6, p3, R3, _, rfl, ⟨hall, fun y hy => ?_, j1.reads, by omega, ?_, ?_, fun y hy => ?_, ?_⟩, by rw [hp3], by rw [hp3]⟩
 ·simp only [List.mem_cons, List.not_mem_nil, or_false] at hy
  rcases hy with rfl | rfl | rfl
  ·exact i3 _ (by simp)
  ·exact nextR_len q1 6
  ·exact j3 _ (by simp)
 ·rw [j4]; dsimp only; omega
 ·rw [j5]; dsimp only; omega
 ·have hy3 : (p3, R3) = y := by simpa using hy
  rw [← hy3]
  exact j1.chain.plain (p3, R3) (by simp)
 ·rw [show (logD D2 (fst 24 r q 6) 24 ⟨6, 1, q1.l + 1, ((nextR q1 6).sum : Int), q1.m⟩ (List.replicate 1 kz)).2.s = 6 from j5]
  exact j1.blank _ (Nat.le_refl _) (by have h4 := j4; dsimp only at h4; omega)
end Go.Proofs.YtgifeilmidpkeaaGreat.sc
