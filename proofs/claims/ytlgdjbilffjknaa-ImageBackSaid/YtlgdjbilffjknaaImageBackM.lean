/- Pages told and loaded: what stays so of two images. -/
import Derived.Test.YtlgdjbilffjknaaImagePure
import Derived.Test.YtlgdjbilffjknaaImageLoad
namespace Go.Proofs.Ytlgdjbilffjknaa.im
set_option linter.unusedSimpArgs false
set_option linter.unusedVariables false
open Go.RowKit Go.Proofs.Ytlgdjbilffjknaa.mem Go.Proofs.Ytlgdjbilffjknaa.base Go.Proofs.Ytlgdjbilffjknaa.pd Go.Proofs.Ytlgdjbilffjknaa.owns

/-- What is not dirty stands alike. -/
def Sync (t u : Tb) : Prop := ∀ j, j < t.l.length → t.d.getD (j / 15) true = false → u.l.getD j 0 = t.l.getD j 0
def Cl (t : Tb) : Prop := ∀ p, t.d.getD p false = false
def Full (t u : Tb) : Prop := ∀ j, j < t.l.length → u.l.getD j 0 = t.l.getD j 0
theorem Full.sync {t u : Tb} (h : Full t u) : Sync t u := fun j hj _ => h j hj
theorem Full.eq {t u : Tb} (h : Full t u) (hl : u.l.length = t.l.length) : u.l = t.l := by
  apply List.ext_getElem hl
  intro i h1 h2
  have := h i h2
  rw [List.getD_eq_getElem?_getD, List.getD_eq_getElem?_getD, List.getElem?_eq_getElem h1, List.getElem?_eq_getElem h2] at this
  exact this
theorem Sync.swap {t u : Tb} (h : Sync t u) (b : Nat) (ref : Int) : Sync (t.swap b ref) u := by
  intro j hj hd
  rw [Tb.swap_len] at hj
  rw [Tb.swap_get _ _ _ _ hj]
  unfold Tb.swap at hd
  dsimp only at hd
  by_cases hr : t.l.getD b 0 = ref
  · rw [if_pos hr] at hd
    rw [h j hj hd]
    split
    · rename_i e
      rw [← e, hr]
    · rfl
  · rw [if_neg hr] at hd
    by_cases e : b / 15 = j / 15
    · rw [e, List.getD_eq_getElem?_getD, List.getElem?_set_self'] at hd
      cases h2 : t.d[j / 15]? <;> simp [h2] at hd
    · rw [List.getD_eq_getElem?_getD, List.getElem?_set_ne e, ← List.getD_eq_getElem?_getD] at hd
      rw [h j hj hd, if_neg (fun e2 => e (by rw [e2]))]
theorem Sync.lay {t u : Tb} (h : Sync t u) (xs : List (Nat × Int)) : Sync (t.lay xs).1 u := by
  have : ∀ (xs : List (Nat × Int)) (s : Tb × List Int), Sync s.1 u → Sync (xs.foldl Tb.step s).1 u := by
    intro xs
    induction xs with
    | nil => exact fun s h => h
    | cons x xs ih => exact fun s h => ih _ (h.swap x.1 x.2)
  exact this xs (t, []) h
theorem Cl.load {t : Tb} (h : Cl t) (k b : Nat) (xs : List Int) : Cl (t.load k b xs) := fun p => by
  unfold Tb.load
  dsimp only
  rw [List.getD_eq_getElem?_getD, List.getElem?_set]
  have := h p
  rw [List.getD_eq_getElem?_getD] at this
  split
  · split <;> simp
  · exact this
theorem Cl.none {t : Tb} (h : Cl t) : marked t.d t.d.length = [] := by
  unfold marked
  rw [List.filter_eq_nil_iff]
  intro a _
  rw [h a]
  simp
theorem Cl.rep (l : List Int) (n : Nat) : Cl ⟨l, List.replicate n false⟩ := fun p => by
  simp [List.getD_eq_getElem?_getD, List.getElem?_replicate]
  split <;> rfl
theorem tb_put (M : Im) (ov : Bool) (t : Tb) : (M.put ov t).tb ov = t := by cases ov <;> rfl
theorem tb_other (M : Im) (ov : Bool) (t : Tb) : (M.put ov t).tb (!ov) = M.tb (!ov) := by cases ov <;> rfl
theorem put_put (M : Im) (ov : Bool) (t u : Tb) : (M.put ov t).put ov u = M.put ov u := by cases ov <;> rfl
theorem put_tb (M : Im) (ov : Bool) : M.put ov (M.tb ov) = M := by cases ov <;> rfl
theorem load_get (u : Tb) (k b : Nat) (xs : List Int) (h : b + xs.length ≤ u.l.length) (j : Nat) (hj : j < u.l.length) : (u.load k b xs).l.getD j 0 = if b ≤ j ∧ j < b + xs.length then xs.getD (j - b) 0 else u.l.getD j 0 := by
  unfold Tb.load
  dsimp only
  rw [List.getD_eq_getElem?_getD, List.getElem?_append]
  by_cases h1 : j < b
  · rw [if_pos (by rw [List.length_take]; omega), List.getElem?_take_of_lt h1, if_neg (by omega), ← List.getD_eq_getElem?_getD]
  · rw [if_neg (by rw [List.length_take]; omega), List.length_take, Nat.min_eq_left (by omega), List.getElem?_append]
    by_cases h2 : j < b + xs.length
    · rw [if_pos (by omega), if_pos (by omega), ← List.getD_eq_getElem?_getD]
    · rw [if_neg (by omega), if_neg (by omega), List.getElem?_drop, ← List.getD_eq_getElem?_getD]
      congr 1
      omega

/-- Behind deeds: the refs are small and distinct, and what is not dirty stands in the other image. -/
structure BkI (n : Nat) (c : Int) (M N : Im) : Prop where
  mv : MvI n c M
  of_ : N.of n
  sb : Sync M.b N.b
  so : Sync M.o N.o
  cb : Cl N.b
  co : Cl N.o
section
variable {n : Nat} {c : Int} {M N : Im}
theorem MvI.mono {c' : Int} (h : MvI n c M) (hc : c ≤ c') : MvI n c' M := ⟨h.1, fun j hj => by have := h.2 j hj; omega⟩
theorem BkI.mono {c' : Int} (h : BkI n c M N) (hc : c ≤ c') : BkI n c' M N := { h with mv := h.mv.mono hc }
theorem BkI.fresh : BkI n 0 (Im.fresh n) (Im.fresh n) := ⟨MvI.fresh, fresh_of n, fun _ _ _ => rfl, fun _ _ _ => rfl, Cl.rep _ _, Cl.rep _ _⟩
theorem BkI.put (h : BkI n c M N) (hc : 0 ≤ c) (ov : Bool) (b : Nat) : BkI n (c + 1) (M.put ov ((M.tb ov).swap b (c + 1))) N := by
  have hm := h.mv.put hc ov b
  cases ov
  · exact ⟨hm, h.of_, h.sb.swap _ _, h.so, h.cb, h.co⟩
  · exact ⟨hm, h.of_, h.sb, h.so.swap _ _, h.cb, h.co⟩
theorem BkI.drop (h : BkI n c M N) (hc : 0 ≤ c) (ov : Bool) (b k : Nat) : BkI n (c + 1) (M.laid ov (likes b 0 k)) N := by
  have hm := h.mv.drop hc ov b k
  cases ov
  · exact ⟨hm, h.of_, h.sb.lay _, h.so, h.cb, h.co⟩
  · exact ⟨hm, h.of_, h.sb, h.so.lay _, h.cb, h.co⟩
theorem BkI.commit (h : BkI n c M N) (hc : 0 ≤ c) : BkI n (c + 1) M.commit N := ⟨h.mv.commit hc, h.of_, h.sb.lay _, h.so.lay _, h.cb, h.co⟩
/-- Both tables cleaned. -/
def Im.clean (M : Im) : Im := ⟨⟨M.b.l, List.replicate M.b.d.length false⟩, ⟨M.o.l, List.replicate M.o.d.length false⟩⟩
/-- The pages that are loaded, s of them. -/
structure BkP (n : Nat) (t u : Tb) (ps : List Nat) : Prop where
  len : u.l.length = n
  cl : Cl u
  got : ∀ j, j < n → (t.d.getD (j / 15) true = false ∨ j / 15 ∈ ps) → u.l.getD j 0 = t.l.getD j 0
theorem BkP.start {t u : Tb} (hl : u.l.length = n) (ht : t.l.length = n) (hc : Cl u) (hs : Sync t u) : BkP n t u [] := ⟨hl, hc, fun j hj h => hs j (by omega) (h.resolve_right (by simp))⟩
theorem BkP.more {t u : Tb} {ps : List Nat} (h : BkP n t u ps) (ht : t.l.length = n) (k b m : Nat) (hb : k * 15 = b) (hm : min (b + 15) n - b = m) (hbn : b < n) : BkP n t (u.load k b ((t.l.drop b).take m)) (ps ++ [k]) := by
  have hxl : ((t.l.drop b).take m).length = m := by rw [List.length_take, List.length_drop]; omega
  refine ⟨by rw [Tb.load_len _ _ _ _ (by rw [hxl, h.len]; omega)]; exact h.len, h.cl.load _ _ _, fun j hj hd => ?_⟩
  rw [load_get _ _ _ _ (by rw [hxl, h.len]; omega) _ (by rw [h.len]; exact hj), hxl]
  by_cases hin : b ≤ j ∧ j < b + m
  · rw [if_pos hin, List.getD_eq_getElem?_getD, List.getElem?_take_of_lt (by omega), List.getElem?_drop, ← List.getD_eq_getElem?_getD]
    congr 1
    omega
  · rw [if_neg hin]
    refine h.got j hj (hd.imp id (fun hm2 => ?_))
    rcases List.mem_append.1 hm2 with h2 | h2
    · exact h2
    · simp at h2
      omega
theorem BkP.full {t u : Tb} (h : BkP n t u (marked t.d t.d.length)) (ht : t.l.length = n) (hd : t.d.length = (n + 15 - 1) / 15) : Full t u := fun j hj => by
  refine h.got j (by omega) ?_
  have hlt : j / 15 < t.d.length := by omega
  cases e : t.d.getD (j / 15) true with
  | false => exact .inl rfl
  | true =>
    refine .inr ?_
    unfold marked
    refine List.mem_filter.2 ⟨List.mem_range.2 hlt, ?_⟩
    rw [List.getD_eq_getElem?_getD, List.getElem?_eq_getElem hlt] at e ⊢
    exact e
theorem page_ok (h : MvI n c M) (hc : c < 4096) (ov : Bool) (b m : Nat) : (((M.tb ov).l.drop b).take m).all (okRef ov) = true := by
  rw [List.all_eq_true]
  intro r hr
  have hr2 := List.mem_of_mem_drop (List.mem_of_mem_take hr)
  obtain ⟨j, hj⟩ := List.mem_iff_getElem?.1 hr2
  have hjl := (List.getElem?_eq_some_iff.1 hj).1
  have hjn : j < n := by
    cases ov
    · exact h.1.1 ▸ hjl
    · exact h.1.2 ▸ hjl
  have h3 := h.2 j hjn
  have he : (M.tb ov).l.getD j 0 = r := by rw [List.getD_eq_getElem?_getD, hj]; rfl
  unfold okRef least
  cases ov <;> simp only [Im.tb] at he <;> rw [he] at h3 <;> simp <;> omega
theorem clean_mv (h : MvI n c M) : MvI n c M.clean := ⟨⟨h.1.1, h.1.2⟩, h.2⟩
/-- Behind a turn: alike. -/
theorem BkI.turned (h : MvI n c M) (hN : N.of n) (fb : Full M.b N.b) (fo : Full M.o N.o) (cb : Cl N.b) (co : Cl N.o) : BkI n c M.clean N ∧ refsL M.clean = refsL N ∧ pendL M.clean.o.l = pendL N.o.l ∧ M.clean.dirt false = [] ∧ M.clean.dirt true = [] ∧ N.dirt false = [] ∧ N.dirt true = [] := by
  have e1 := fb.eq (by rw [hN.1, h.1.1])
  have e2 := fo.eq (by rw [hN.2, h.1.2])
  refine ⟨⟨clean_mv h, hN, fun j hj _ => fb j hj, fun j hj _ => fo j hj, cb, co⟩, ?_, by rw [e2]; rfl, (Cl.rep _ _).none, (Cl.rep _ _).none, cb.none, co.none⟩
  unfold refsL
  rw [e1, e2]
  rfl
end
/-- Between the two tables. -/
structure BkQ (n : Nat) (M N : Im) (q : Nat) : Prop where
  of_ : N.of n
  cb : Cl N.b
  co : Cl N.o
  sb : Sync M.b N.b
  so : Sync M.o N.o
  fb : 1 ≤ q → Full M.b N.b
  fo : 2 ≤ q → Full M.o N.o
theorem BkI.start {n : Nat} {c : Int} {M N : Im} (h : BkI n c M N) : BkQ n M N 0 := ⟨h.of_, h.cb, h.co, h.sb, h.so, fun h => by omega, fun h => by omega⟩
theorem IAt.dl {w : World} {X : Ib} {M : Im} {n : Nat} (h : IAt w X M) (ho : M.of n) (ov : Bool) : (M.tb ov).d.length = (n + 15 - 1) / 15 := by rw [h.dlen ov, ho.1]
theorem of_put {M : Im} {n : Nat} (h : M.of n) (ov : Bool) {t : Tb} (ht : t.l.length = n) : (M.put ov t).of n := by cases ov; exact ⟨ht, h.2⟩; exact ⟨h.1, ht⟩
theorem of_tb {M : Im} {n : Nat} (h : M.of n) (ov : Bool) : (M.tb ov).l.length = n := by cases ov; exact h.1; exact h.2
theorem BkQ.first {n : Nat} {M N : Im} {q : Nat} (h : BkQ n M N q) (hm : M.of n) (ov : Bool) : BkP n (M.tb ov) (N.tb ov) [] := by
  cases ov
  · exact BkP.start h.of_.1 hm.1 h.cb h.sb
  · exact BkP.start h.of_.2 hm.2 h.co h.so
theorem BkQ.next {n : Nat} {M N : Im} {q : Nat} (h : BkQ n M N q) (hm : M.of n) (hq : q < 2) (ov : Bool) (hov : ov = decide (q = 1)) {u : Tb} (hd : (M.tb ov).d.length = (n + 15 - 1) / 15) (hu : BkP n (M.tb ov) u (M.dirt ov)) : BkQ n M (N.put ov u) (q + 1) := by
  have hf := hu.full (of_tb hm ov) hd
  obtain rfl | rfl : q = 0 ∨ q = 1 := by omega
  · obtain rfl : ov = false := by simpa using hov
    exact ⟨of_put h.of_ false hu.len, hu.cl, h.co, hf.sync, h.so, fun _ => hf, fun h => by omega⟩
  · obtain rfl : ov = true := by simpa using hov
    exact ⟨of_put h.of_ true hu.len, h.cb, hu.cl, h.sb, hf.sync, fun _ => h.fb (by omega), fun _ => hf⟩
theorem dirt_lt {M : Im} {ov : Bool} {p : Nat} (h : p ∈ M.dirt ov) : p < (M.tb ov).d.length := List.mem_range.1 (List.mem_filter.1 h).1
theorem cellsN_at {l : List Nat} {i x : Nat} (h : l[i]? = some x) : (cellsN l)[i]? = some (.int .i64 (x : Int)) := by unfold cellsN; rw [List.getElem?_map, h]; rfl
end Go.Proofs.Ytlgdjbilffjknaa.im
