/- The law's own rows of slices beside a disk: eight slices in an array (Old), eight rows of slices in an array (Among). -/
import Derived.Test.YteobkgajebbpaaaDiskKit
namespace Go.Proofs.Yteobkgajebbpaaa.shelf
open Go.RowKit Go.Proofs.Yteobkgajebbpaaa.mem Go.Proofs.Yteobkgajebbpaaa.base Go.Proofs.Yteobkgajebbpaaa.disk

/-- A slice of 64 bytes over a block of its own, which is no block of F. -/
def Sl (w : World) (F : List Nat) (v : Value) (bs : List UInt8) : Prop := ∃ g, v = .slice (some ⟨g, 0, none⟩) 64 64 ∧ Arr w g 64 bs ∧ bs.length = 64 ∧ g ∉ F
/-- Blocks that hold no bytes. -/
def NoBytes (w : World) (S : List Nat) : Prop := ∀ x ∈ S, ∃ t cs, Blk w x t cs ∧ t ≠ 5
/-- What a call of the disk may do: its own blocks turn, new ones join them. -/
structure Step (w : World) (F : List Nat) (w' : World) (F' : List Nat) : Prop where
  kept : Kept F w w'
  more : ∀ x ∈ F', x ∈ F ∨ w.heap.size ≤ x

section
variable {w w' : World} {F F' S : List Nat} {v : Value} {bs : List UInt8}
theorem Step.out (h : Step w F w' F') {g : Nat} (hg : g ∉ F) (hlt : g < w.heap.size) : g ∉ F' := fun hm => by
  rcases h.more g hm with h1 | h1
  · exact hg h1
  · omega
theorem Step.of_kept (h : Kept [] w w') : Step w F w' F := ⟨h.mono (by simp), fun x hx => .inl hx⟩
theorem Sl.step (h : Sl w F v bs) (k : Step w F w' F') : Sl w' F' v bs := by
  obtain ⟨g, rfl, ha, hl, hg⟩ := h
  exact ⟨g, rfl, ha.kept k.kept hg, hl, k.out hg ha.lt⟩
theorem Sl.keptT (h : Sl w F v bs) (k : Kept S w w') (hS : NoBytes w S) : Sl w' F v bs := by
  obtain ⟨g, rfl, ha, hl, hg⟩ := h
  refine ⟨g, rfl, ha.kept k (fun hm => ?_), hl, hg⟩
  obtain ⟨t, cs, hb, ht⟩ := hS g hm
  exact ha.ne_ hb ht rfl
theorem Sl.at_ (h : Sl w F v bs) : ∃ g, v = .slice (some ⟨g, 0, none⟩) 64 64 ∧ ∀ (k : Nat) (x : UInt8), bs[k]? = some x → w.cell? ⟨g, k, none⟩ = some (.int .u8 (x.toNat : Int)) := by
  obtain ⟨g, rfl, ha, _, _⟩ := h
  exact ⟨g, rfl, fun k x hx => ha.at_ hx⟩

/-- An array of eight slices, of which the first m are known. -/
def Old (w : World) (F : List Nat) (b m : Nat) (os : Nat → List UInt8) : Prop :=
  ∃ cs : Array Value, Blk w b 57 cs ∧ cs.size = 8 ∧ b ∉ F ∧ ∀ j, j < m → ∃ v, cs[j]? = some v ∧ Sl w F v (os j)
def upd {α : Type} (f : Nat → α) (j : Nat) (x : α) : Nat → α := fun i => if i = j then x else f i

variable {b m : Nat} {os : Nat → List UInt8}
theorem Old.step (h : Old w F b m os) (k : Step w F w' F') : Old w' F' b m os := by
  obtain ⟨cs, hb, hz, hn, hs⟩ := h
  exact ⟨cs, k.kept.blk hb hn, hz, k.out hn hb.lt, fun j hj => by obtain ⟨v, hv, hl⟩ := hs j hj; exact ⟨v, hv, hl.step k⟩⟩
theorem Old.kept0 (h : Old w F b m os) (k : Kept [] w w') : Old w' F b m os := h.step (.of_kept k)
theorem Old.keptT (h : Old w F b m os) (k : Kept S w w') (hS : NoBytes w S) (hb' : b ∉ S) : Old w' F b m os := by
  obtain ⟨cs, hb, hz, hn, hs⟩ := h
  exact ⟨cs, k.blk hb hb', hz, hn, fun j hj => by obtain ⟨v, hv, hl⟩ := hs j hj; exact ⟨v, hv, hl.keptT k hS⟩⟩
theorem Old.noBytes (h : Old w F b m os) : NoBytes w [b] := by
  obtain ⟨cs, hb, _⟩ := h
  intro x hx
  simp at hx
  subst hx
  exact ⟨_, cs, hb, by decide⟩
theorem Old.put (h : Old w F b m os) {j m' : Nat} (hv : Sl w F v bs) (hj : j < 8) (hm : ∀ i, i < m' → i = j ∨ i < m) : Old (w.setCell ⟨b, j, none⟩ v) F b m' (upd os j bs) := by
  have hnb := h.noBytes
  have hk : Kept [b] w (w.setCell ⟨b, j, none⟩ v) := (Kept.refl [b] w).set_ (.inl (by simp)) _ _
  obtain ⟨cs, hb, hz, hn, hs⟩ := h
  refine ⟨_, hb.set_ j v, by simpa using hz, hn, fun i hi => ?_⟩
  unfold upd
  by_cases e : i = j
  · subst e
    rw [if_pos rfl]
    exact ⟨v, by simp [hz, hj], hv.keptT hk hnb⟩
  · rw [if_neg e]
    rcases hm i hi with h1 | h1
    · exact absurd h1 e
    · obtain ⟨u, hu, hl⟩ := hs i h1
      exact ⟨u, by rw [Array.getElem?_setIfInBounds_ne (by omega)]; exact hu, hl.keptT hk hnb⟩
theorem Old.put0 (h : Old w F b 0 os) {j : Nat} (hv : Sl w F v bs) (hj : j < 8) : Old (w.setCell ⟨b, j, none⟩ v) F b 0 os := by
  obtain ⟨cs, hb, hz, hn, hs⟩ := h.put (m' := 0) hv hj (fun i hi => by omega)
  exact ⟨cs, hb, hz, hn, fun i hi => by omega⟩
theorem Old.cell_put (h : Old w F b m os) {j : Nat} (hj : j < 8) (v : Value) : (w.setCell ⟨b, j, none⟩ v).cell? ⟨b, j, none⟩ = some v := by
  obtain ⟨cs, hb, hz, hn, hs⟩ := h
  rw [(hb.set_ j v).cell]
  simp [hz, hj]
theorem Old.any (h : Old w F b m os) {j : Nat} (hj : j < 8) : (∃ u, w.cell? ⟨b, j, none⟩ = some u) ∧ w.frozen? ⟨b, j, none⟩ = false := by
  obtain ⟨cs, hb, hz, hn, hs⟩ := h
  exact ⟨⟨cs[j], by rw [hb.cell]; simp [hz, hj]⟩, hb.frozen j⟩
theorem Old.get (h : Old w F b m os) {j : Nat} (hj : j < m) : ∃ v, w.cell? ⟨b, j, none⟩ = some v ∧ Sl w F v (os j) := by
  obtain ⟨cs, hb, hz, hn, hs⟩ := h
  obtain ⟨v, hv, hl⟩ := hs j hj
  exact ⟨v, by rw [hb.cell]; exact hv, hl⟩
theorem Old.new (w : World) (F : List Nat) (os : Nat → List UInt8) (cs : Array Value) (hz : cs.size = 8) (hF : ∀ x ∈ F, x < w.heap.size) : Old (w.alloc (.cells cs 57)) F w.heap.size 0 os :=
  ⟨cs, Blk.new _ _ _, hz, fun hm => by have := hF _ hm; omega, fun j hj => by omega⟩

/-- Eight rows of slices, each over a block of its own. -/
def Rw (β : Nat) (w : World) (F : List Nat) (v : Value) (hs : List (List UInt8)) : Prop :=
  ∃ A c xs, v = .slice A hs.length c ∧ w.ownsRow 0 34 1 v hs.length xs ∧ (∀ g, A.map Addr.block = some g → β ≤ g ∧ g ∉ F) ∧ ∀ (i : Nat) (x : List UInt8), hs[i]? = some x → ∃ u, xs[i]? = some u ∧ Sl w F u x
def Among (β : Nat) (w : World) (F : List Nat) (b : Nat) (H : Nat → List (List UInt8)) : Prop :=
  ∃ cs : Array Value, Blk w b 58 cs ∧ cs.size = 8 ∧ b ∉ F ∧ (∀ j, j < 8 → ∃ v, cs[j]? = some v ∧ Rw β w F v (H j)) ∧
    ∀ (i j : Nat) (u v : Value), i ≠ j → cs[i]? = some u → cs[j]? = some v → ∀ g, u.ownBlock = some g → v.ownBlock ≠ some g
variable {β : Nat}
theorem Rw.step {hs : List (List UInt8)} (h : Rw β w F v hs) (k : Step w F w' F') : Rw β w' F' v hs := by
  obtain ⟨A, c, xs, rfl, ho, hA, hx⟩ := h
  refine ⟨A, c, xs, rfl, own_kept ho k.kept (fun g hg => (hA g hg).2), fun g hg => ⟨(hA g hg).1, ?_⟩, fun i x hi => by obtain ⟨u, hu, hl⟩ := hx i x hi; exact ⟨u, hu, hl.step k⟩⟩
  rcases ho.2 with ⟨h2, _⟩ | ⟨g', cap, cur, hv, hb, hh, r⟩
  · injection h2 with h2
    subst h2
    cases hg
  · injection hv with hv
    subst hv
    injection hg with hg
    subst hg
    exact k.out (hA _ rfl).2 (Blk.lt (show Blk w _ _ cur from hh))
theorem Rw.keptT {hs : List (List UInt8)} (h : Rw β w F v hs) (k : Kept S w w') (hS : NoBytes w S) (hb' : ∀ g, v.ownBlock = some g → g ∉ S) : Rw β w' F v hs := by
  obtain ⟨A, c, xs, rfl, ho, hA, hx⟩ := h
  refine ⟨A, c, xs, rfl, own_kept ho k (fun g hg => hb' g (by cases A with | none => cases hg | some a => exact hg)), hA, fun i x hi => by obtain ⟨u, hu, hl⟩ := hx i x hi; exact ⟨u, hu, hl.keptT k hS⟩⟩
theorem Among.step {H : Nat → List (List UInt8)} (h : Among β w F b H) (k : Step w F w' F') : Among β w' F' b H := by
  obtain ⟨cs, hb, hz, hn, hs, hd⟩ := h
  exact ⟨cs, k.kept.blk hb hn, hz, k.out hn hb.lt, fun j hj => by obtain ⟨v, hv, hl⟩ := hs j hj; exact ⟨v, hv, hl.step k⟩, hd⟩
theorem Among.kept0 {H : Nat → List (List UInt8)} (h : Among β w F b H) (k : Kept [] w w') : Among β w' F b H := h.step (.of_kept k)
theorem Among.get {H : Nat → List (List UInt8)} (h : Among β w F b H) {j : Nat} (hj : j < 8) : ∃ v, w.cell? ⟨b, j, none⟩ = some v ∧ Rw β w F v (H j) ∧ w.frozen? ⟨b, j, none⟩ = false := by
  obtain ⟨cs, hb, hz, hn, hs, hd⟩ := h
  obtain ⟨v, hv, hl⟩ := hs j hj
  exact ⟨v, by rw [hb.cell]; exact hv, hl, hb.frozen j⟩
theorem Among.new (w : World) (F : List Nat) (hF : ∀ x ∈ F, x < w.heap.size) : Among β (w.alloc (.cells (Array.replicate 8 (.slice none 0 0)) 58)) F w.heap.size (fun _ => []) := by
  refine ⟨_, Blk.new _ _ _, by simp, fun hm => by have := hF _ hm; omega, fun j hj => ⟨.slice none 0 0, by simp [hj], none, 0, [], rfl, ⟨rfl, .inl ⟨rfl, rfl⟩⟩, by simp, by simp⟩, fun i j u v _ hu hv g hg => ?_⟩
  rw [Array.getElem?_replicate] at hu
  split at hu
  · injection hu with hu
    subst hu
    cases hg
  · cases hu
/-- A store into another array of the law's own. -/
theorem Among.keptT {H : Nat → List (List UInt8)} (h : Among β w F b H) {b2 : Nat} {cs2 : Array Value} (h2 : Blk w b2 57 cs2) (k : Kept [b2] w w') : Among β w' F b H := by
  obtain ⟨cs, hb, hz, hn, hs, hd⟩ := h
  have hS : NoBytes w [b2] := fun x hx => by simp at hx; subst hx; exact ⟨_, cs2, h2, by decide⟩
  refine ⟨cs, k.blk hb (fun hm => ?_), hz, hn, fun j hj => ?_, hd⟩
  · simp at hm
    subst hm
    unfold Blk at hb h2
    rw [hb] at h2
    injection h2 with h2
    injection h2 with _ h2
    exact absurd h2 (by decide)
  · obtain ⟨v, hv, hl⟩ := hs j hj
    refine ⟨v, hv, hl.keptT k hS (fun g hg hm => ?_)⟩
    simp at hm
    subst hm
    obtain ⟨A, c, xs, rfl, ho, _, _⟩ := hl
    rcases ho.2 with ⟨h3, _⟩ | ⟨g', cap, cur, hv', hb', hh, r⟩
    · injection h3 with h3
      subst h3
      cases hg
    · injection hv' with hv'
      subst hv'
      injection hg with hg
      subst hg
      unfold Blk at h2
      rw [hh] at h2
      injection h2 with h2
      injection h2 with _ h2
      exact absurd h2 (by decide)
theorem own_type {e : TypeId} {size n : Nat} {xs : List Value} (h : w.ownsRow 0 e size v n xs) {g : Nat} (hg : v.ownBlock = some g) : ∃ cur, Blk w g e cur := by
  rcases h.2 with ⟨rfl, _⟩ | ⟨g', cap, cur, rfl, hb, hh, r⟩
  · cases hg
  · injection hg with hg
    subst hg
    exact ⟨cur, hh⟩
theorem own_noBytes {n : Nat} {xs : List Value} (h : w.ownsRow 0 34 1 v n xs) : NoBytes w v.ownBlock.toList := fun x hx => by
  obtain ⟨cur, hb⟩ := own_type h (by simpa using hx)
  exact ⟨_, cur, hb, by decide⟩
theorem blk_ne {g g' : Nat} {t t' : TypeId} {cs cs' : Array Value} (h : Blk w g t cs) (h' : Blk w g' t' cs') (ht : t ≠ t') : g ≠ g' := by
  rintro rfl
  unfold Blk at h h'
  rw [h] at h'
  injection h' with h'
  injection h' with _ h'
  exact ht h'
theorem Rw.own {hs : List (List UInt8)} (h : Rw β w F v hs) {g : Nat} (hg : v.ownBlock = some g) : β ≤ g ∧ g ∉ F ∧ ∃ cur, Blk w g 34 cur := by
  obtain ⟨A, c, xs, rfl, ho, hA, hx⟩ := h
  have := hA g (by cases A with | none => cases hg | some a => exact hg)
  exact ⟨this.1, this.2, own_type ho hg⟩

theorem Among.push {H : Nat → List (List UInt8)} {b j c n : Nat} {A : Option Addr} {xs : List Value} {wl w2 : World} {v2 u : Value} {x : List UInt8} (h : Among β wl F b H) (hj : j < 8) (hc : wl.cell? ⟨b, j, none⟩ = some (.slice A n c))
    (hn : (H j).length = n) (hx : ∀ (i : Nat) (y : List UInt8), (H j)[i]? = some y → ∃ u, xs[i]? = some u ∧ Sl wl F u y) (ho : wl.ownsRow 0 34 1 (.slice A n c) n xs)
    (hF : ∀ y ∈ F, y < wl.heap.size) (hβ : β ≤ wl.heap.size) (hβb : β ≤ b)
    (hown : w2.ownsRow 0 34 1 v2 (n + 1) (xs ++ [u])) (hk : Kept (Value.slice A n c).ownBlock.toList wl w2) (hat : v2.ownBlock = (Value.slice A n c).ownBlock ∨ v2.ownBlock = some wl.heap.size) (hu : Sl wl F u x) :
    Among β (w2.setCell ⟨b, j, none⟩ v2) F b (upd H j (H j ++ [x])) ∧ (∀ bo m os, Old wl F bo m os → Old (w2.setCell ⟨b, j, none⟩ v2) F bo m os) ∧ (∀ w0 p D, w0.heap.size = β → Mine w0 wl F p D → Mine w0 (w2.setCell ⟨b, j, none⟩ v2) F p D) ∧
      (∃ u, w2.cell? ⟨b, j, none⟩ = some u) ∧ w2.frozen? ⟨b, j, none⟩ = false ∧ (w2.setCell ⟨b, j, none⟩ v2).cell? ⟨b, j, none⟩ = some v2 ∧ (∀ (bo m : Nat) os (i : Nat) (u : Value), Old wl F bo m os → wl.cell? ⟨bo, i, none⟩ = some u → (w2.setCell ⟨b, j, none⟩ v2).cell? ⟨bo, i, none⟩ = some u) ∧ (∀ (v : Value) (x : List UInt8), Sl wl F v x → Sl (w2.setCell ⟨b, j, none⟩ v2) F v x) ∧ Kept ((Value.slice A n c).ownBlock.toList ++ [b]) wl (w2.setCell ⟨b, j, none⟩ v2) := by
  subst hn
  obtain ⟨cs, hb, hz, hn, hs, hd⟩ := h
  rw [hb.cell] at hc
  have nb := own_noBytes ho
  have hR : Rw β wl F (.slice A (H j).length c) (H j) := by
    obtain ⟨v, hv, hl⟩ := hs j hj
    rw [hc] at hv
    injection hv with hv
    subst hv
    exact hl
  have hbo : b ∉ (Value.slice A (H j).length c).ownBlock.toList := fun hm => by
    obtain ⟨_, _, cur, hcur⟩ := hR.own (g := b) (by simpa using hm)
    exact blk_ne hb hcur (by decide) rfl
  have hb2 : Blk w2 b 58 cs := hk.blk hb hbo
  have hk3 : Kept [b] w2 (w2.setCell ⟨b, j, none⟩ v2) := (Kept.refl [b] w2).set_ (.inl (by simp)) _ _
  have nb2 : NoBytes w2 [b] := fun y hy => by simp at hy; subst hy; exact ⟨_, cs, hb2, by decide⟩
  have hkk : Kept ((Value.slice A (H j).length c).ownBlock.toList ++ [b]) wl (w2.setCell ⟨b, j, none⟩ v2) := (hk.mono (fun i hi => .inl (by simp at hi ⊢; exact .inl hi))).trans hk3 (fun i hi => .inl (by simp at hi ⊢; exact .inr hi))
  obtain ⟨A2, c2, hv2, _⟩ := own_slice hown
  subst hv2
  refine ⟨⟨_, hb2.set_ j _, by simpa using hz, hn, fun i hi => ?_, ?_⟩, fun bo m os ho' => ?_, fun w0 p D hw hm => ?_, ⟨cs[j], by rw [hb2.cell]; simp [hz, hj]⟩, hb2.frozen j, by rw [(hb2.set_ j _).cell]; simp [hz, hj], fun bo m os i u ho' hcu => ?_, fun v x hv => (hv.keptT hk nb).keptT hk3 nb2, hkk⟩
  · by_cases e : i = j
    · subst e
      refine ⟨.slice A2 ((H i).length + 1) c2, by simp [hz, hj], ?_⟩
      unfold upd
      rw [if_pos rfl]
      refine ⟨A2, c2, xs ++ [u], by simp, ?_, fun g hg => ?_, fun k y hy => ?_⟩
      · rw [List.length_append]
        exact own_kept hown hk3 (fun g hg hm => by
          simp at hm
          subst hm
          obtain ⟨cur, hcur⟩ := own_type hown (g := g) (by cases A2 with | none => cases hg | some a => exact hg)
          exact blk_ne hb2 hcur (by decide) rfl)
      · have hg' : (Value.slice A2 ((H i).length + 1) c2).ownBlock = some g := by cases A2 with | none => cases hg | some a => exact hg
        rcases hat with h1 | h1
        · rw [h1] at hg'
          exact ⟨(hR.own hg').1, (hR.own hg').2.1⟩
        · rw [h1] at hg'
          injection hg' with hg'
          subst hg'
          exact ⟨hβ, fun hm => by have := hF _ hm; omega⟩
      · rw [List.getElem?_append] at hy
        split at hy
        · rename_i hlt
          obtain ⟨u', hu', hl'⟩ := hx k y hy
          exact ⟨u', by rw [List.getElem?_append_left (List.getElem?_eq_some_iff.1 hu').1]; exact hu', (hl'.keptT hk nb).keptT hk3 nb2⟩
        · rename_i hge
          have hkl : k - (H i).length = 0 := by
            have := (List.getElem?_eq_some_iff.1 hy).1
            simp at this
            omega
          rw [hkl] at hy
          simp at hy
          subst hy
          have hxl : xs.length = (H i).length := by have := ho.1; omega
          exact ⟨u, by rw [List.getElem?_append_right (by omega), show k - xs.length = 0 by omega]; rfl, (hu.keptT hk nb).keptT hk3 nb2⟩
    · obtain ⟨v, hv, hl⟩ := hs i hi
      unfold upd
      rw [if_neg e]
      have hl2 : Rw β w2 F v (H i) := hl.keptT hk nb (fun g hg hm => hd i j v _ e hv hc g hg (by simpa using hm))
      refine ⟨v, by rw [Array.getElem?_setIfInBounds_ne (by omega)]; exact hv, hl2.keptT hk3 nb2 (fun g hg hm => ?_)⟩
      simp at hm
      subst hm
      obtain ⟨_, _, cur, hcur⟩ := hl2.own hg
      exact blk_ne hb2 hcur (by decide) rfl
  · have far : ∀ i v, i ≠ j → cs[i]? = some v → ∀ g, v.ownBlock = some g → (Value.slice A2 ((H j).length + 1) c2).ownBlock ≠ some g := by
      intro i v hi hv g hg he
      rcases hat with h1 | h1
      · rw [h1] at he
        exact hd i j v _ hi hv hc g hg he
      · rw [h1] at he
        injection he with he
        subst he
        have hi8 : i < 8 := by have := (Array.getElem?_eq_some_iff.1 hv).1; omega
        obtain ⟨v', hv', hl⟩ := hs i hi8
        rw [hv] at hv'
        injection hv' with hv'
        subst hv'
        obtain ⟨_, _, cur, hcur⟩ := hl.own hg
        have := hcur.lt
        omega
    intro i k u' v' hik hu' hv' g hg
    by_cases e1 : i = j
    · subst e1
      rw [Array.getElem?_setIfInBounds_self_of_lt (by omega)] at hu'
      injection hu' with hu'
      subst hu'
      rw [Array.getElem?_setIfInBounds_ne (by omega)] at hv'
      intro he
      exact far k v' (by omega) hv' g he hg
    · rw [Array.getElem?_setIfInBounds_ne (by omega)] at hu'
      by_cases e2 : k = j
      · subst e2
        rw [Array.getElem?_setIfInBounds_self_of_lt (by omega)] at hv'
        injection hv' with hv'
        subst hv'
        exact far i u' e1 hu' g hg
      · rw [Array.getElem?_setIfInBounds_ne (by omega)] at hv'
        exact hd i k u' v' hik hu' hv' g hg
  · obtain ⟨co, hbo', _⟩ := id ho'
    have h1 : bo ∉ (Value.slice A (H j).length c).ownBlock.toList := fun hm => by
      obtain ⟨_, _, cur, hcur⟩ := hR.own (g := bo) (by simpa using hm)
      exact blk_ne hbo' hcur (by decide) rfl
    have h2 : bo ∉ [b] := fun hm => by
      simp at hm
      exact blk_ne hbo' hb (by decide) hm
    exact (ho'.keptT hk nb h1).keptT hk3 nb2 h2
  · subst hw
    refine ⟨hm.1.kept hkk (fun y hy hm' => ?_), hm.2.1, hm.2.2.trans hkk (fun y hy => .inr ?_)⟩
    · rcases List.mem_append.1 hm' with h1 | h1
      · exact (hR.own (g := y) (by simpa using h1)).2.1 hy
      · simp at h1
        subst h1
        exact hn hy
    · rcases List.mem_append.1 hy with h1 | h1
      · exact (hR.own (g := y) (by simpa using h1)).1
      · simp at h1
        subst h1
        exact hβb
  · obtain ⟨co, hbo', _⟩ := id ho'
    refine hkk.cell hcu (fun hm => ?_)
    rcases List.mem_append.1 hm with h1 | h1
    · obtain ⟨_, _, cur, hcur⟩ := hR.own (g := bo) (by simpa using h1)
      exact blk_ne hbo' hcur (by decide) rfl
    · simp at h1
      exact blk_ne hbo' hb (by decide) h1
theorem Old.mine {w0 : World} {p : Nat} {D : Dk} (h : Old w F b m os) (hb : w0.heap.size ≤ b) (hm : Mine w0 w F p D) (j : Nat) (u : Value) : Mine w0 (w.setCell ⟨b, j, none⟩ u) F p D := by
  have hk : Kept [b] w (w.setCell ⟨b, j, none⟩ u) := (Kept.refl [b] w).set_ (.inl (by simp)) _ _
  obtain ⟨cs, hb', hz, hn, hs⟩ := h
  exact ⟨hm.1.kept hk (fun y hy hm' => by simp at hm'; subst hm'; exact hn hy), hm.2.1, hm.2.2.trans hk (fun y hy => .inr (by simp at hy; subst hy; exact hb))⟩
theorem Old.other {b2 m2 : Nat} {os2 : Nat → List UInt8} (h : Old w F b m os) (h2 : Old w F b2 m2 os2) (hne : b ≠ b2) (j : Nat) (u : Value) : Old (w.setCell ⟨b2, j, none⟩ u) F b m os :=
  h.keptT ((Kept.refl [b2] w).set_ (.inl (by simp)) _ _) h2.noBytes (by simp [hne])
theorem Among.other {H : Nat → List (List UInt8)} {b2 m2 : Nat} {os2 : Nat → List UInt8} (h : Among β w F b H) (h2 : Old w F b2 m2 os2) (j : Nat) (u : Value) : Among β (w.setCell ⟨b2, j, none⟩ u) F b H := by
  obtain ⟨cs, hb, _⟩ := h2
  exact h.keptT hb ((Kept.refl [b2] w).set_ (.inl (by simp)) _ _)
theorem slice_info2 : (Try.prog.info? 34).map (fun i => (i.zero, i.size, i.bytes)) = some (some (.slice none 0 0), 1, 24) := by kernel_rfl
theorem oneCell_sl2 (g : Nat) : ∀ u ∈ [Value.slice (some ⟨g, 0, none⟩) 64 64], u.oneCell' = true := by
  intro u hu
  simp only [List.mem_cons, List.not_mem_nil, or_false] at hu
  subst hu
  rfl
end
end Go.Proofs.Yteobkgajebbpaaa.shelf
