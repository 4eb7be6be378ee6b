import Derived.Test.YtolbalafhfpjbaaGreatPDiskCore
import Derived.StillTailTactics
import Derived.BigQuiet
namespace Go.Proofs.YtolbalafhfpjbaaGreat.disk
open Go.RowKit mem base
def sl (g : Nat) : Value := .slice (some ⟨g, 0, none⟩) 64 64
def hcells (l : List (Nat × List UInt8)) (gs : List Nat) : List Value := (l.zip gs).flatMap fun x => [I x.1.1, sl x.2]
structure RDat (w : World) (r : Nat) (D : Dk) (gs gf : Nat) (hA : Option Addr) (sgs hgs : List Nat) (cs cf hc : Nat) (fv : Int) (lA : Option Addr) (lc : Nat) : Prop where
 blk : Blk w r 101 #[.slice (some ⟨gs, 0, none⟩) D.n cs, .slice hA D.held.length hc, .slice (some ⟨gf, 0, none⟩) D.n cf, .int .i64 fv, .bool D.off, .int .i64 D.acts, .slice lA 0 lc]
 srow : Row w gs 41 (sgs.map sl)
 slen : sgs.length = D.n
 safe : ∀ (i g : Nat), sgs[i]? = some g → Row w g 5 ((sec D.safe i).map B)
 hrow : w.ownsRow 0 137 2 (.slice hA D.held.length hc) D.held.length (hcells D.held hgs)
 hlen : hgs.length = D.held.length
 hdat : ∀ (i g : Nat) (x : Nat × List UInt8), hgs[i]? = some g → D.held[i]? = some x → Row w g 5 (x.2.map B)
 faults : Row w gf 4 (D.faults.map Value.bool)
 lo : -1 ≤ fv
 hi : fv < 9223372036854775808
 fuse : D.off = false → fv = D.fuse
 cs1 : D.n ≤ cs
 cf1 : D.n ≤ cf
 lnil : lA = none → lc = 0

def rfeet (r gs gf : Nat) (hA : Option Addr) (sgs hgs : List Nat) : List Nat := r :: gs :: gf :: ((hA.map Addr.block).toList ++ (sgs ++ hgs))
def RD (w : World) (F : List Nat) (r : Nat) (D : Dk) : Prop := D.ok ∧ ∃ gs gf hA sgs hgs cs cf hc fv lA lc, RDat w r D gs gf hA sgs hgs cs cf hc fv lA lc ∧ F = rfeet r gs gf hA sgs hgs

section
variable {w w' : World} {r gs gf cs cf hc lc : Nat} {D : Dk} {hA lA : Option Addr} {sgs hgs : List Nat} {fv : Int} {F : List Nat}
theorem getElem?_mem {l : List Nat} {i g : Nat} (h : l[i]? = some g) : g ∈ l := List.mem_of_getElem? h
theorem RDat.kept {S : List Nat} (h : RDat w r D gs gf hA sgs hgs cs cf hc fv lA lc) (k : Kept S w w') (hs : ∀ x ∈ rfeet r gs gf hA sgs hgs, x ∉ S) : RDat w' r D gs gf hA sgs hgs cs cf hc fv lA lc :=
 ⟨k.blk h.blk (hs _ (by simp [rfeet])), h.srow.kept k (hs _ (by simp [rfeet])), h.slen, fun i g hg => (h.safe i g hg).kept k (hs _ (by have := getElem?_mem hg; simp [rfeet, this])),
  own_kept h.hrow k (fun g hg => hs _ (by simp [rfeet, hg])), h.hlen, fun i g x hg hx => (h.hdat i g x hg hx).kept k (hs _ (by have := getElem?_mem hg; simp [rfeet, this])), h.faults.kept k (hs _ (by simp [rfeet])), h.lo, h.hi, h.fuse, h.cs1, h.cf1, h.lnil⟩
theorem RD.kept {S : List Nat} (h : RD w F r D) (k : Kept S w w') (hs : ∀ x ∈ F, x ∉ S) : RD w' F r D := by
 obtain ⟨ho, gs, gf, hA, sgs, hgs, cs, cf, hc, fv, lA, lc, h, rfl⟩ := h
 exact ⟨ho, gs, gf, hA, sgs, hgs, cs, cf, hc, fv, lA, lc, h.kept k hs, rfl⟩
theorem RD.drewN (h : RD w F r D) (n : Nat) : RD (w.drewN n) F r D := h.kept ((Kept.refl [] _).drewN n) (by simp)
theorem own_lt {e : TypeId} {size n m c : Nat} {A : Option Addr} {xs : List Value} (h : w.ownsRow 0 e size (.slice A m c) n xs) {g : Nat} (hg : A.map Addr.block = some g) : g < w.heap.size ∧ ∃ cur, Blk w g e cur := by
 rcases h.2 with ⟨h2, _⟩ | ⟨g', cap, cur, hv, hb, hh, r⟩
 ·injection h2 with h2
  subst h2
  cases hg
 ·injection hv with hv
  subst hv
  injection hg with hg
  subst hg
  exact ⟨Blk.lt (show Blk w g' _ cur from hh), cur, hh⟩
theorem RD.lt (h : RD w F r D) : ∀ x ∈ F, x < w.heap.size := by
 obtain ⟨ho, gs, gf, hA, sgs, hgs, cs, cf, hc, fv, lA, lc, h, rfl⟩ := h
 intro x hx
 simp only [rfeet, List.mem_cons, List.mem_append] at hx
 rcases hx with rfl | rfl | rfl | hx | hx | hx
 ·exact h.blk.lt
 ·exact h.srow.lt
 ·exact h.faults.lt
 ·exact (own_lt h.hrow (by simpa using hx)).1
 ·obtain ⟨i, hi, rfl⟩ := List.getElem_of_mem hx
  exact (h.safe i _ (List.getElem?_eq_getElem hi)).lt
 ·obtain ⟨i, hi, rfl⟩ := List.getElem_of_mem hx
  exact (h.hdat i _ _ (List.getElem?_eq_getElem hi) (List.getElem?_eq_getElem (by have := h.hlen; omega))).lt
theorem RD.mem (h : RD w F r D) : r ∈ F := by
 obtain ⟨ho, gs, gf, hA, sgs, hgs, cs, cf, hc, fv, lA, lc, h, rfl⟩ := h
 simp [rfeet]

end
def RTurned (w w' : World) (F : List Nat) (r : Nat) (D' : Dk) : Prop := ∃ F', RD w' F' r D' ∧ (∀ x ∈ F', x ∈ F ∨ w.heap.size ≤ x) ∧ Kept F w w'
theorem RTurned.same {w : World} {F : List Nat} {r : Nat} {D : Dk} (h : RD w F r D) : RTurned w w F r D := ⟨F, h, fun _ hx => .inl hx, Kept.refl _ _⟩
theorem RTurned.of_kept {w w' : World} {F S : List Nat} {r : Nat} {D : Dk} (h : RD w' F r D) (k : Kept S w w') (hs : ∀ x ∈ S, x ∈ F) : RTurned w w' F r D := ⟨F, h, fun _ hx => .inl hx, k.mono (fun x hx => .inl (hs x hx))⟩

end Go.Proofs.YtolbalafhfpjbaaGreat.disk
namespace Go.Proofs.YtolbalafhfpjbaaGreat.disk
open Go.RowKit mem base
theorem Arr.row {w : World} {b cap : Nat} {bs : List UInt8} (h : Arr w b cap bs) : Row w b 5 (bs.map B) := by
 obtain ⟨cs, h, hz, hl, r⟩ := h
 refine ⟨cs, h, by rw [List.length_map]; omega, fun i v hv => ?_⟩
 rw [List.getElem?_map] at hv
 obtain ⟨x, hx, rfl⟩ := Option.map_eq_some_iff.1 hv
 exact r i x hx
structure Out (w0 w : World) (r gs gf n cs cf : Nat) (lA : Option Addr) (lc : Nat) (sgs : List Nat) (S : List UInt8) (fl : List Bool) : Prop where
 blk : Blk w r 101 #[.slice (some ⟨gs, 0, none⟩) n cs, .slice none 0 0, .slice (some ⟨gf, 0, none⟩) n cf, .int .i64 (-1), .bool false, .int .i64 0, .slice lA 0 lc]
 srow : Row w gs 41 (sgs.map sl)
 slen : sgs.length = n
 dup : sgs.Nodup
 safe : ∀ (i g : Nat), sgs[i]? = some g → Row w g 5 ((sec S i).map B)
 faults : Row w gf 4 (fl.map Value.bool)
 slz : S.length = 64 * n
 flz : fl.length = n
 new : ∀ x ∈ r :: gs :: gf :: sgs, w0.heap.size ≤ x
 cs1 : n ≤ cs
 cf1 : n ≤ cf
 lnil : lA = none → lc = 0

theorem Out.kept {w0 w w' : World} {r gs gf n cs cf lc : Nat} {lA : Option Addr} {sgs : List Nat} {S : List UInt8} {fl : List Bool} (h : Out w0 w r gs gf n cs cf lA lc sgs S fl) {T : List Nat} (k : Kept T w w') (hs : ∀ x ∈ r :: gs :: gf :: sgs, x ∉ T) : Out w0 w' r gs gf n cs cf lA lc sgs S fl :=
 ⟨k.blk h.blk (hs _ (by simp)), h.srow.kept k (hs _ (by simp)), h.slen, h.dup, fun i g hg => (h.safe i g hg).kept k (hs _ (by have := getElem?_mem hg; simp [this])), h.faults.kept k (hs _ (by simp)), h.slz, h.flz, h.new, h.cs1, h.cf1, h.lnil⟩

theorem rd_of_out {w0 w : World} {r gs gf n cs cf lc : Nat} {lA : Option Addr} {sgs : List Nat} {S : List UInt8} {fl : List Bool} (h : Out w0 w r gs gf n cs cf lA lc sgs S fl) (h1 : 1 ≤ n) (h2 : n ≤ 4096) : ∃ F, RD w F r ⟨S, [], fl, -1, 0, false⟩ ∧ ∀ x ∈ F, w0.heap.size ≤ x := by
 have hn : Dk.n ⟨S, [], fl, -1, 0, false⟩ = n := h.flz
 refine ⟨_, ⟨⟨by rw [hn]; exact h1, by rw [hn]; exact h2, by rw [hn]; exact h.slz, by simp, by simp, by simp⟩, gs, gf, none, sgs, [], cs, cf, 0, -1, lA, lc, ⟨by rw [hn]; exact h.blk, h.srow, by rw [hn]; exact h.slen, h.safe, ⟨by simp [hcells], .inl ⟨rfl, rfl⟩⟩, rfl, fun i g x hg => by simp at hg, h.faults, by omega, by omega, fun _ => rfl, by rw [hn]; exact h.cs1, by rw [hn]; exact h.cf1, h.lnil⟩, rfl⟩, ?_⟩
 intro x hx
 refine h.new x ?_
 simp [rfeet] at hx
 simp
 exact hx
end Go.Proofs.YtolbalafhfpjbaaGreat.disk
namespace Go.Proofs.YtolbalafhfpjbaaGreat.disk
open Go.RowKit mem base
theorem slice_info : (Tryz.prog.info? 41).map (fun i => (i.zero, i.size, i.bytes)) = some (some (.slice none 0 0), 1, 24) := by kernel_rfl
theorem oneCell_sl (g : Nat) : ∀ u ∈ [sl g], u.oneCell' = true := by
 intro u hu
 simp only [List.mem_cons, List.not_mem_nil, or_false] at hu
 subst hu
 rfl
structure Grow (w0 w : World) (r gf n : Nat) (v : Value) (k : Nat) (sgs : List Nat) : Prop where
 blk : Blk w r 101 #[v, .slice none 0 0, .slice (some ⟨gf, 0, none⟩) n n, .int .i64 (-1), .bool false, .int .i64 0, .slice none 0 0]
 own : w.ownsRow 0 41 1 v k (sgs.map sl)
 ogn : ∀ g, v.ownBlock = some g → w0.heap.size ≤ g
 dup : sgs.Nodup
 safe : ∀ g ∈ sgs, Row w g 5 ((List.replicate 64 (0 : UInt8)).map B)
 faults : Row w gf 4 ((List.replicate n false).map Value.bool)
 new : ∀ x ∈ r :: gf :: sgs, w0.heap.size ≤ x
 kept : Kept [] w0 w

theorem grow_step {w0 w w5 : World} {r gf n k : Nat} {v v1 : Value} {sgs : List Nat} (h : Grow w0 w r gf n v k sgs) (Z : Array Value) (hZ : Row (w.alloc (.cells Z 5)) w.heap.size 5 ((List.replicate 64 (0 : UInt8)).map B))
  (hown : w5.ownsRow 0 41 1 v1 (k + 1) (sgs.map sl ++ [sl w.heap.size])) (hk : Kept v.ownBlock.toList (((w.alloc (.cells Z 5)).alloc (.cells #[sl w.heap.size] 41)).drew) w5) (hat : v1.ownBlock = v.ownBlock ∨ v1.ownBlock = some (w.heap.size + 2)) :
  (w5.cell? ⟨r, 0, none⟩ = some v ∧ w5.frozen? ⟨r, 0, none⟩ = false) ∧ Grow w0 (w5.setCell ⟨r, 0, none⟩ v1) r gf n v1 (k + 1) (sgs ++ [w.heap.size]) := by
 have hs := h.kept.size
 have k1 : Kept [] w (((w.alloc (.cells Z 5)).alloc (.cells #[sl w.heap.size] 41)).drew) := (((Kept.refl [] w).alloc _).alloc _).drew
 have hty : ∀ {g t vs}, Row w g t vs → t ≠ 41 → g ∉ v.ownBlock.toList := fun {g t vs} hr ht hm => by
  rcases h.own.2 with ⟨h2, _⟩ | ⟨g', cap, cur, hv, hb, hh, r⟩
  ·rw [h2] at hm; simp [Value.ownBlock] at hm
  ·rw [hv] at hm
   simp [Value.ownBlock] at hm
   subst hm
   exact Row.ne_ hr (Row.of_blk (show Blk w _ 41 cur from hh)) ht rfl
 have hrb := Row.of_blk h.blk
 have b5 := hk.blk (k1.blk h.blk (by simp)) (hty hrb (by decide))
 have hgn : w.heap.size ∉ v.ownBlock.toList := fun hm => by
  rcases h.own.2 with ⟨h2, _⟩ | ⟨g', cap, cur, hv, hb, hh, r⟩
  ·rw [h2] at hm; simp [Value.ownBlock] at hm
  ·rw [hv] at hm
   simp [Value.ownBlock] at hm
   have := Blk.lt (show Blk w g' 41 cur from hh)
   omega
 have z5 : Row w5 w.heap.size 5 ((List.replicate 64 (0 : UInt8)).map B) := ((hZ.alloc _).drew).kept hk hgn
 have k6 : Kept [r] w5 (w5.setCell ⟨r, 0, none⟩ v1) := (Kept.refl _ _).set_ (.inl (by simp)) _ _
 have hrl : r < w.heap.size := h.blk.lt
 have hlt : ∀ g ∈ sgs, g < w.heap.size := fun g hg => (h.safe g hg).lt
 have hog : ∀ g, v1.ownBlock = some g → w0.heap.size ≤ g := fun g hg => by
  rcases hat with hat | hat
  ·rw [hat] at hg; exact h.ogn g hg
  ·rw [hat] at hg
   injection hg with hg
   omega
 refine ⟨⟨b5.cell 0, b5.frozen 0⟩, ⟨by have := b5.set_ 0 v1; simpa using this, ?_, hog, ?_, ?_, ?_, ?_, ?_⟩⟩
 ·rw [List.map_append]
  rcases hown.2 with ⟨_, h2⟩ | ⟨g', cap, cur, hv, hb, hh, hrest⟩
  ·omega
  ·refine ⟨hown.1, .inr ⟨g', cap, cur, hv, hb, ?_, hrest⟩⟩
   have hb5 : Blk w5 g' 41 cur := hh
   exact hb5.far_ (Row.ne_ (Row.of_blk hb5) (Row.of_blk b5) (by decide)) _ _
 ·rw [List.nodup_append]
  exact ⟨h.dup, by simp, fun a ha b hb => by simp at hb; have := hlt a ha; omega⟩
 ·intro g hg
  rcases List.mem_append.1 hg with hg | hg
  ·have r5 := ((h.safe g hg).kept k1 (by simp)).kept hk (hty (h.safe g hg) (by decide))
   exact r5.kept k6 (by simp; have := Row.ne_ r5 (Row.of_blk b5) (by decide); exact this)
  ·simp at hg
   subst hg
   exact z5.kept k6 (by simp; omega)
 ·have r5 := (h.faults.kept k1 (by simp)).kept hk (hty h.faults (by decide))
  exact r5.kept k6 (by simp; exact Row.ne_ r5 (Row.of_blk b5) (by decide))
 ·intro x hx
  simp only [List.mem_cons, List.mem_append, List.not_mem_nil, or_false] at hx
  rcases hx with rfl | rfl | hx | rfl
  ·exact h.new _ (by simp)
  ·exact h.new _ (by simp)
  ·exact h.new _ (by simp [hx])
  ·exact hs
 ·refine ((h.kept.trans k1 (by simp)).trans hk (fun x hx => .inr ?_)).trans k6 (fun x hx => .inr ?_)
  ·exact h.ogn x (by simpa using hx)
  ·simp at hx
   subst hx
   exact h.new _ (by simp)

theorem sec_zeros (n i : Nat) (hi : i < n) : sec (List.replicate (64 * n) (0 : UInt8)) i = List.replicate 64 0 := by
 unfold sec
 rw [List.drop_replicate, List.take_replicate]
 congr 1
 omega

set_option maxRecDepth 100000 in
set_option maxHeartbeats 2000000 in
theorem rnew_ok (x : Int) (n : Nat) (hx : x = n) (w : World) (h1 : 1 ≤ n) (h2 : n ≤ 4096) : Calls Tryz.prog 133 #[.int .i64 x] w fun e w' =>
  ∃ r gs gf cs sgs, e = .returned (.pointer (some ⟨r, 0, none⟩)) ∧ Out w w' r gs gf n cs n none 0 sgs (List.replicate (64 * n) 0) (List.replicate n false) ∧ Kept [] w w' := by
 subst hx
 have hb := make_bools n h2
 have rb := row_bools n
 generalize madeCells #[Value.bool false] n = Y at hb rb
 have hmk : ∀ w : World, (Instr.makeSlice 41 (.int .i64 64) (.int .i64 64)).run Tryz.prog w = .ok (.slice (some ⟨w.heap.size, 0, none⟩) 64 64) (w.alloc (.cells (madeCells #[.int .u8 0] 64) 5)) :=
  run_make_row' (P := Tryz.prog) 41 5 (.int .u8 0) 1 (by kernel_rfl) (by kernel_rfl) rfl .i64 .i64 64 (by omega) (by omega)
 have hz : ∀ w : World, Row (w.alloc (.cells (madeCells #[.int .u8 0] 64) 5)) w.heap.size 5 ((List.replicate 64 (0 : UInt8)).map B) := fun w => ⟨_, Blk.new _ _ _, by rw [size_madeCells]; simp, fun i v hv => by
  rw [List.map_replicate, List.getElem?_replicate] at hv
  split at hv
  ·rename_i hi
   rw [made_B 64 i hi]
   exact hv
  ·cases hv⟩
 generalize madeCells #[Value.int .u8 0] 64 = Z at hmk hz
 have HZ := hide hz
 have RB := hide rb
 clear hz rb
 have hn1 : (1 : Int) ≤ n := by omega
 have hn2 : (n : Int) ≤ 4096 := by omega
 have G0 : Hid (Grow w ((w.alloc (.cells Y 4)).alloc (.cells #[.slice none 0 0, .slice none 0 0, .slice (some ⟨w.heap.size, 0, none⟩) n n, .int .i64 (-1), .bool false, .int .i64 0, .slice none 0 0] 101)) (w.heap.size + 1) w.heap.size n (.slice none 0 0) 0 []) := hide
  ⟨by have := Blk.new (w.alloc (.cells Y 4)) 101 #[.slice none 0 0, .slice none 0 0, .slice (some ⟨w.heap.size, 0, none⟩) n n, .int .i64 (-1), .bool false, .int .i64 0, .slice none 0 0]; simpa using this,
   ⟨rfl, .inl ⟨rfl, rfl⟩⟩, by simp [Value.ownBlock], by simp, by simp, (RB.out w).alloc _, by simp, ((Kept.refl [] w).alloc _).alloc _⟩
 go_enter Tryz.func133, Tryz.ntmps133
 go_wp2_with fail
 refine (within_yes _ 1 4096 _ (by omega)).mono ?_
 rintro e w' ⟨rfl, rfl⟩
 go_wp2
 go_loopw [4] (fun i wr => ∃ (k : Nat) (v : Value) (sgs : List Nat), k ≤ n ∧ i = .int .i64 k ∧ Hid (Grow w wr (w.heap.size + 1) w.heap.size n v k sgs)) (fun i wr => n - (intOf i).toNat)
 case atStart => exact ⟨0, _, _, Nat.zero_le _, rfl, G0⟩
 case round =>
  obtain ⟨k, v, sgs, hk, rfl, HG⟩ := hrel
  generalize w.heap.size + 1 = r at *
  by_cases hlt : k < n
  ·have c0 : wr.cell? ⟨r, 0, none⟩ = some v := HG.out.blk.cell 0
   have hrl := HG.out.blk.lt
   have c0a : (wr.alloc (.cells Z 5)).cell? ⟨r, 0, none⟩ = some v := (HG.out.blk.alloc _).cell 0
   have O3 : Hid ((((wr.alloc (.cells Z 5)).alloc (.cells #[sl wr.heap.size] 41)).drew).ownsRow 0 41 1 v k (sgs.map sl)) := hide (((HG.out.own.alloc _).alloc _))
   have V3 : Hid (Vals (((wr.alloc (.cells Z 5)).alloc (.cells #[sl wr.heap.size] 41)).drew) [] (some ⟨wr.heap.size + 1, 0, none⟩) [sl wr.heap.size]) := hide (by
    have := (Row.of_blk (Blk.new (wr.alloc (.cells Z 5)) 41 #[sl wr.heap.size])).drew.vals0 (S := []) (by simp)
    simpa using this)
   clear G0
   unfold sl at O3 V3
   go_wp2
   go_region_law (first
    | (refine step_append_vals rfl (.tmp 21) (.tmp 23) 97 rfl 0 41 (.slice none 0 0) 1 24 Tryz.underlying97 slice_info rfl (by omega) v k (sgs.map sl) rfl O3.out [] _ 1 1 [sl wr.heap.size] rfl rfl V3.out (oneCell_sl _) (by simp only [maxLen]; omega) (by omega) (Nat.zero_le _) ?_; intro v1 w5 hown1 hk1 hat1; obtain ⟨g1, c1, cur1, rfl, _, _⟩ := own_some hown1 (by omega); have HST := hide (grow_step HG.out Z (HZ.out wr) hown1 hk1 (by simpa using hat1)); obtain ⟨⟨c05, f05⟩, _⟩ := HST.out; clear hown1 hk1 hat1))
   all_goals
    have HN := hide HST.out.2
    clear HST c05 f05
    go_wp2
    exact ⟨⟨k + 1, _, _, by omega, by go_num, HN⟩, by simp [intOf]; omega⟩
  ·obtain rfl : k = n := by omega
   clear G0
   go_wp2
   go_ret
   have hg := HG.out
   obtain ⟨g1, c1, cur1, rfl, hc1, _⟩ := own_some hg.own (by omega)
   obtain ⟨g2, hg2, hrow, _⟩ := own_addr hg.own (by omega)
   injection hg2 with hg2
   injection hg2 with hg2
   subst hg2
   have hsl : sgs.length = k := by have := hg.own.1; simpa using this
   refine ⟨_, g1, _, c1, sgs, rfl, ⟨hg.blk, hrow, hsl, hg.dup, fun i g hi => ?_, hg.faults, by simp, by simp, ?_, hc1, Nat.le_refl _, fun _ => rfl⟩, hg.kept⟩
   ·rw [sec_zeros k i (by rw [← hsl]; exact (List.getElem?_eq_some_iff.1 hi).1)]
    exact hg.safe g (getElem?_mem hi)
   ·intro y hy
    simp only [List.mem_cons] at hy
    rcases hy with rfl | rfl | rfl | hy
    ·exact hg.new _ (by simp)
    ·exact hg.ogn _ rfl
    ·exact hg.new _ (by simp)
    ·exact hg.new _ (by simp [hy])
end Go.Proofs.YtolbalafhfpjbaaGreat.disk
namespace Go.Proofs.YtolbalafhfpjbaaGreat.disk
open Go.RowKit mem base
end Go.Proofs.YtolbalafhfpjbaaGreat.disk
namespace Go.Proofs.YtolbalafhfpjbaaGreat.disk
open Go.RowKit mem base
end Go.Proofs.YtolbalafhfpjbaaGreat.disk
namespace Go.Proofs.YtolbalafhfpjbaaGreat.disk
open Go.RowKit mem base
section
variable {w0 w w' : World} {r gs gf n cs cf lc : Nat} {lA : Option Addr} {sgs : List Nat} {S : List UInt8} {fl : List Bool}
theorem Out.upd (h : Out w0 w r gs gf n cs cf lA lc sgs S fl) {i g : Nat} {xs : List UInt8} (hg : sgs[i]? = some g) (hi : i < n) (hx : xs.length ≤ 64) (k : Kept [g] w w') (hr : Row w' g 5 (lay ((sec S i).map B) 0 (xs.map B))) : Out w0 w' r gs gf n cs cf lA lc sgs (lay S (64 * i) xs) fl := by
 have h0 := h.safe i g hg
 have hne : ∀ {y t vs}, Row w y t vs → t ≠ 5 → y ∉ [g] := fun {y t vs} hy ht hm => by
  simp at hm
  subst hm
  exact Row.ne_ hy h0 ht rfl
 refine ⟨k.blk h.blk (hne (Row.of_blk h.blk) (by decide)), h.srow.kept k (hne h.srow (by decide)), h.slen, h.dup, ?_, h.faults.kept k (hne h.faults (by decide)), ?_, h.flz, h.new, h.cs1, h.cf1, h.lnil⟩
 ·intro j y hy
  by_cases e : i = j
  ·subst e
   rw [hg] at hy
   injection hy with hy
   subst hy
   rw [sec_lay_same S i n xs h.slz hi hx, lay_map]
   exact hr
  ·rw [sec_lay_other S i j n xs h.slz hi hx e]
   refine (h.safe j y hy).kept k (fun hm => ?_)
   simp at hm
   subst hm
   have h1 := (List.getElem?_inj (List.getElem?_eq_some_iff.1 hg).1 h.dup).1 (hg.trans hy.symm)
   exact e h1
 ·rw [lay_length _ _ _ (by have := h.slz; omega)]
  exact h.slz
theorem Out.laid (h : Out w0 w r gs gf n cs cf lA lc sgs S fl) (g c : Nat) : Out w0 (w.setCell ⟨r, 6, none⟩ (.slice (some ⟨g, 0, none⟩) 0 c)) r gs gf n cs cf (some ⟨g, 0, none⟩) c sgs S fl ∧ Kept [r] w (w.setCell ⟨r, 6, none⟩ (.slice (some ⟨g, 0, none⟩) 0 c)) := by
 have k : Kept [r] w (w.setCell ⟨r, 6, none⟩ (.slice (some ⟨g, 0, none⟩) 0 c)) := (Kept.refl [r] w).set_ (.inl (by simp)) _ _
 have hne : ∀ {y t vs}, Row w y t vs → t ≠ 101 → y ∉ [r] := fun {y t vs} hy ht hm => by
  simp at hm
  subst hm
  exact Row.ne_ hy (Row.of_blk h.blk) ht rfl
 refine ⟨⟨?_, h.srow.kept k (hne h.srow (by decide)), h.slen, h.dup, fun j y hy => (h.safe j y hy).kept k (hne (h.safe j y hy) (by decide)), h.faults.kept k (hne h.faults (by decide)), h.slz, h.flz, h.new, h.cs1, h.cf1, (fun e => by cases e)⟩, k⟩
 have := h.blk.set_ 6 (.slice (some ⟨g, 0, none⟩) 0 c)
 simpa using this
end
end Go.Proofs.YtolbalafhfpjbaaGreat.disk
namespace Go.Proofs.YtolbalafhfpjbaaGreat.disk
open Go.RowKit mem base
structure Pr (w0 w : World) (F : List Nat) (p : Nat) (D : Dk) (G : List Nat) (r : Nat) (E : Dk) : Prop where
 a : Mine w0 w F p D
 b : RD w G r E
 new : ∀ x ∈ G, w0.heap.size ≤ x
 sep : ∀ x ∈ F, x ∉ G

section
variable {w0 w w' : World} {F G : List Nat} {p r : Nat} {D D' E E' : Dk}
theorem Pr.kept (h : Pr w0 w F p D G r E) (k : Kept [] w w') : Pr w0 w' F p D G r E := ⟨h.a.kept k, h.b.kept k (by simp), h.new, h.sep⟩
theorem Pr.right (h : Pr w0 w F p D G r E) (t : RTurned w w' G r E') : ∃ G', Pr w0 w' F p D G' r E' ∧ (∀ x ∈ G', x ∈ G ∨ w.heap.size ≤ x) ∧ Kept G w w' := by
 obtain ⟨G', hv, hs, hk⟩ := t
 have hle := h.a.2.2.size
 refine ⟨G', ⟨⟨h.a.1.kept hk h.sep, h.a.2.1, h.a.2.2.trans hk (fun x hx => .inr (h.new x hx))⟩, hv, fun x hx => ?_, fun x hx hm => ?_⟩, hs, hk⟩
 ·rcases hs x hx with h1 | h1
  ·exact h.new x h1
  ·omega
 ·rcases hs x hm with h1 | h1
  ·exact h.sep x hx h1
  ·have := h.a.1.lt x hx
   omega
end
theorem two_at (x : Int) (n : Nat) (hx : x = n) (w : World) (h1 : 1 ≤ n) (h2 : n ≤ 4096) : Calls Tryz.prog 68 #[.int .i64 x] w fun e w' =>
  ∃ F p G r, e = .returned (.tuple #[.pointer (some ⟨p, 0, none⟩), .pointer (some ⟨r, 0, none⟩), .bool true]) ∧ Pr w w' F p (Dk.new n) G r (Dk.new n) := by
 subst hx
 go_enter Tryz.func68, Tryz.ntmps68
 go_wp2_with fail
 refine (mine_new (n : Int) n w _ rfl (Kept.refl _ _) h1 h2).mono ?_
 rintro e w1 ⟨F, p, rfl, hm⟩
 have HM := hide hm
 clear hm
 go_wp2_with fail
 refine (rnew_ok (n : Int) n rfl _ h1 h2).mono ?_
 rintro e w2 ⟨r, gs, gf, cs, sgs, rfl, hout, hk⟩
 have HP : Hid (∃ G, Pr w w2 F p (Dk.new n) G r (Dk.new n)) := hide (by
  obtain ⟨G, hrd, hG⟩ := rd_of_out hout h1 h2
  have hs := HM.out.2.2.size
  exact ⟨G, HM.out.kept hk, hrd, fun x hx => by have := hG x hx; omega, fun x hx hm => by have := HM.out.1.lt x hx; have := hG x hm; omega⟩)
 clear hout hk HM
 go_wp2
 go_ret3
 obtain ⟨G, hp⟩ := HP.out
 exact ⟨F, p, G, r, rfl, hp⟩
end Go.Proofs.YtolbalafhfpjbaaGreat.disk
namespace Go.Proofs.YtolbalafhfpjbaaGreat.disk
open Go.RowKit mem base
section
variable {w0 w w' : World} {F G F2 G2 : List Nat} {p r p2 r2 : Nat} {D D' E E' D2 D2' E2 E2' : Dk}
theorem Pr.far (h : Pr w0 w F p D G r E) {S : List Nat} (k : Kept S w w') (h1 : ∀ x ∈ F, x ∉ S) (h2 : ∀ x ∈ G, x ∉ S) (h3 : ∀ x ∈ S, w0.heap.size ≤ x) : Pr w0 w' F p D G r E :=
 ⟨⟨h.a.1.kept k h1, h.a.2.1, h.a.2.2.trans k (fun x hx => .inr (h3 x hx))⟩, h.b.kept k h2, h.new, h.sep⟩
structure Qd (w0 w : World) (F : List Nat) (p : Nat) (D : Dk) (G : List Nat) (r : Nat) (E : Dk) (F2 : List Nat) (p2 : Nat) (D2 : Dk) (G2 : List Nat) (r2 : Nat) (E2 : Dk) : Prop where
 a : Pr w0 w F p D G r E
 b : Pr w0 w F2 p2 D2 G2 r2 E2
 ff : ∀ x ∈ F, x ∉ F2 ∧ x ∉ G2
 gg : ∀ x ∈ G, x ∉ F2 ∧ x ∉ G2
theorem Qd.kept (h : Qd w0 w F p D G r E F2 p2 D2 G2 r2 E2) (k : Kept [] w w') : Qd w0 w' F p D G r E F2 p2 D2 G2 r2 E2 := ⟨h.a.kept k, h.b.kept k, h.ff, h.gg⟩
theorem Qd.right (h : Qd w0 w F p D G r E F2 p2 D2 G2 r2 E2) (t : RTurned w w' G r E') : ∃ G', Qd w0 w' F p D G' r E' F2 p2 D2 G2 r2 E2 := by
 obtain ⟨G', hp, hs, hk⟩ := h.a.right t
 refine ⟨G', hp, h.b.far hk (fun x hx hm => (h.gg x hm).1 hx) (fun x hx hm => (h.gg x hm).2 hx) (fun x hx => h.a.new x hx), h.ff, fun x hx => ?_⟩
 rcases hs x hx with h1 | h1
 ·exact h.gg x h1
 ·exact ⟨fun hm => by have := h.b.a.1.lt x hm; omega, fun hm => by have := h.b.b.lt x hm; omega⟩
end
end Go.Proofs.YtolbalafhfpjbaaGreat.disk
