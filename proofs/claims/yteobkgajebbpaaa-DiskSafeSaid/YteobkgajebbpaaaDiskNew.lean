/- made, New, Fuse, Fault, Read. -/
import Derived.Test.YteobkgajebbpaaaDiskClone
namespace Go.Proofs.Yteobkgajebbpaaa.disk
open Go.RowKit Go.Proofs.Yteobkgajebbpaaa.mem Go.Proofs.Yteobkgajebbpaaa.base

theorem made_at (gs gf cs cf n : Nat) (bs : List UInt8) (fs : List Bool) (w : World) (hs : Row w gs 70 (bs.map B)) (hf : Row w gf 4 (fs.map Value.bool)) (hbl : bs.length = 64 * n) (hfl : fs.length = n) (h2 : n ≤ 4096) (hcs : n ≤ cs) (hcf : n ≤ cf) :
    Calls Try.prog 32 #[.slice (some ⟨gs, 0, none⟩) n cs, .slice (some ⟨gf, 0, none⟩) n cf] w fun e w' =>
      ∃ p gn cn, e = .returned (.pointer (some ⟨p, 0, none⟩)) ∧ VDat w' p ⟨bs, [], fs, -1, 0, false⟩ gs gn gf none cs cn cf 0 (-1) ∧ w.heap.size ≤ p ∧ w.heap.size ≤ gn ∧ Kept [] w w' := by
  have HS := hide hs
  have HF := hide hf
  have HBL := hide hbl
  have HFL := hide hfl
  clear hs hf hbl hfl
  go_enter Try.func32, Try.ntmps32
  go_wp2_with fail
  refine (clone_secs ⟨gs, 0, none⟩ n cs bs _ (HS.out.vals0 (by simp)) HBL.out h2).mono ?_
  rintro e w1 ⟨gn, cn, rfl, hgn, hcn, hr, hk⟩
  have HR := hide hr
  have HK := hide hk
  clear hr hk
  go_wp2
  go_ret
  have hfn : Dk.n ⟨bs, [], fs, -1, 0, false⟩ = n := HFL.out
  have hk1 := HK.out.alloc (.cells #[.slice (some ⟨gs, 0, none⟩) n cs, .slice (some ⟨gn, 0, none⟩) n cn, .slice none 0 0, .slice (some ⟨gf, 0, none⟩) n cf, .int .i64 (-1), .int .i64 0, .bool false] 75)
  refine ⟨_, gn, cn, rfl, ⟨?_, HS.out.kept hk1 (by simp), HR.out.alloc _, fun e => by have := HS.out.lt; omega, HF.out.kept hk1 (by simp), ⟨by simp [heldCells], .inl ⟨rfl, rfl⟩⟩, by omega, by omega, fun _ => rfl, by rw [hfn]; exact hcs, by rw [hfn]; exact hcn, by rw [hfn]; exact hcf⟩, HK.out.size, hgn, hk1⟩
  rw [hfn]
  exact Blk.new _ _ _

theorem vd_of_made {w w' : World} {p gs gn gf cs cn cf n : Nat} {bs : List UInt8} {fs : List Bool} (h : VDat w' p ⟨bs, [], fs, -1, 0, false⟩ gs gn gf none cs cn cf 0 (-1)) (hp : w.heap.size ≤ p) (hgs : w.heap.size ≤ gs) (hgn : w.heap.size ≤ gn) (hgf : w.heap.size ≤ gf)
    (hbl : bs.length = 64 * n) (hfl : fs.length = n) (h1 : 1 ≤ n) (h2 : n ≤ 4096) : ∃ F, VD w' F p ⟨bs, [], fs, -1, 0, false⟩ ∧ ∀ x ∈ F, w.heap.size ≤ x := by
  have hfn : Dk.n ⟨bs, [], fs, -1, 0, false⟩ = n := hfl
  refine ⟨_, ⟨⟨by rw [hfn]; exact h1, by rw [hfn]; exact h2, by rw [hfn]; exact hbl, by simp, by simp, by simp⟩, _, _, _, _, _, _, _, _, _, h, rfl⟩, ?_⟩
  intro x hx
  simp [feet] at hx
  omega

theorem new_no (n : Int) (w : World) (h : n < 1 ∨ 4096 < n) : Calls Try.prog 10 #[.int .i64 n] w fun e w' => e = .returned (.tuple #[.pointer none, .int .i64 1]) ∧ w = w' := by
  by_cases hn : n < 1
  · go_enter Try.func10, Try.ntmps10
    go_wp2
    go_ret2
    exact ⟨rfl, rfl⟩
  · have h1 : 4096 < n := by omega
    clear h
    go_enter Try.func10, Try.ntmps10
    go_wp2
    go_ret2
    exact ⟨rfl, rfl⟩

theorem VDat.restruct {w w' : World} {p gs gn gf cs cn cf hc : Nat} {D D' : Dk} {hA : Option Addr} {fv fv' : Int} (h : VDat w p D gs gn gf hA cs cn cf hc fv) (k : Kept [p] w w') (e1 : D'.safe = D.safe) (e2 : D'.held = D.held) (e3 : D'.faults = D.faults)
    (hb : Blk w' p 75 #[.slice (some ⟨gs, 0, none⟩) D.n cs, .slice (some ⟨gn, 0, none⟩) D.n cn, .slice hA D.held.length hc, .slice (some ⟨gf, 0, none⟩) D.n cf, .int .i64 fv', .int .i64 D'.acts, .bool D'.off])
    (hl : -1 ≤ fv') (hh : fv' < 9223372036854775808) (hf : D'.off = false → fv' = D'.fuse) : VDat w' p D' gs gn gf hA cs cn cf hc fv' := by
  have en : D'.n = D.n := by unfold Dk.n; rw [e3]
  have ew : D'.now = D.now := by unfold Dk.now; rw [e1, e2]
  have hne : ∀ {g t vs}, Row w g t vs → t ≠ 75 → g ∉ [p] := fun {g t vs} hr ht hm => by
    simp at hm
    subst hm
    exact Row.ne_ hr (Row.of_blk h.blk) ht rfl
  refine ⟨by rw [en, e2]; exact hb, by rw [e1]; exact h.safe.kept k (hne h.safe (by decide)), by rw [ew]; exact h.now.kept k (hne h.now (by decide)), h.ne, by rw [e3]; exact h.faults.kept k (hne h.faults (by decide)), ?_, hl, hh, hf, by rw [en]; exact h.cs1, by rw [en]; exact h.cn1, by rw [en]; exact h.cf1⟩
  rw [e2]
  refine own_kept h.held k (fun g hg hm => ?_)
  simp at hm
  subst hm
  rcases h.held.2 with ⟨h2, _⟩ | ⟨g', cap, cur, hv, hb', hh', r⟩
  · injection h2 with h2
    subst h2
    cases hg
  · injection hv with hv
    subst hv
    injection hg with hg
    subst hg
    exact Row.ne_ (Row.of_blk (show Blk w g' 72 cur from hh')) (Row.of_blk h.blk) (by decide) rfl

set_option maxRecDepth 100000 in
theorem fuse_at (p : Nat) (F : List Nat) (D : Dk) (n : Int) (w : World) (h : VD w F p D) (hn : n < 9223372036854775808) : Calls Try.prog 20 #[.pointer (some ⟨p, 0, none⟩), .int .i64 n] w fun e w' => e = .returned (.tuple #[]) ∧ VD w' F p (D.fused n) ∧ Kept [p] w w' := by
  obtain ⟨ho, gs, gn, gf, hA, cs, cn, cf, hc, fv, h, hF⟩ := h
  have h4 : w.cell? ⟨p, 4, none⟩ = some (.int .i64 fv) := h.blk.cell 4
  have f4 := h.blk.frozen 4
  have H := hide h
  have HF := hide hF
  have HO := hide (ho.fused n)
  clear h hF ho
  have fin : ∀ q : Int, (q = if n < 0 then -1 else n) → ∀ w', w' = w.setCell ⟨p, 4, none⟩ (.int .i64 q) → VD w' F p (D.fused n) ∧ Kept [p] w w' := by
    intro q hq w' hw
    subst hw
    have k : Kept [p] w (w.setCell ⟨p, 4, none⟩ (.int .i64 q)) := (Kept.refl _ _).set_ (.inl (by simp)) _ _
    refine ⟨⟨HO.out, gs, gn, gf, hA, cs, cn, cf, hc, q, H.out.restruct k rfl rfl rfl (by have := H.out.blk.set_ 4 (.int .i64 q); simpa [Dk.fused] using this) ?_ ?_ (fun _ => hq), HF.out⟩, k⟩
    · rw [hq]; split <;> omega
    · rw [hq]; split <;> omega
  have HFin := hide fin
  clear fin
  by_cases hx : n < 0
  · by_cases hy : n = -1
    · subst hy
      go_enter Try.func20, Try.ntmps20
      go_wp2
      go_end0
      exact ⟨rfl, HFin.out _ (by simp) _ rfl⟩
    · have hz : n < -1 := by omega
      go_enter Try.func20, Try.ntmps20
      go_wp2
      go_end0
      exact ⟨rfl, HFin.out _ (by simp [hx]) _ rfl⟩
  · have hz : -1 < n := by omega
    go_enter Try.func20, Try.ntmps20
    go_wp2
    go_end0
    exact ⟨rfl, HFin.out _ (by rw [if_neg (by omega)]) _ rfl⟩
end Go.Proofs.Yteobkgajebbpaaa.disk
