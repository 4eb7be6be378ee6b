import GoSem.ClaimWide
import Derived.Test.YtolbalafhfpjbaaGreatPBase
import Derived.ProofKit
import Derived.OpenShut
import Derived.ShutString
import Derived.ChangeOld
import Derived.Below
namespace Go.Proofs.YtolbalafhfpjbaaGreat.base
open Go.RowKit mem
end Go.Proofs.YtolbalafhfpjbaaGreat.base

namespace Go.Proofs.YtolbalafhfpjbaaGreat.base
open Go.ChangeShapes Go.WideShapes Go.ChangeAt Go.RowKit mem
def IsRow (k : IntKind) (w : World) (a : Option Addr) (len cap : Nat) (zs : List Int) : Prop :=
 (a = none ∧ len = 0 ∧ cap = 0 ∧ zs = []) ∨
 ∃ x, a = some x ∧ len ≤ cap ∧ cap ≤ maxLen ∧ zs.length = cap ∧ (∀ i, i < zs.length → w.cell? (x.add i) = some (.int k (zs.getD i 0))) ∧ ∀ n ∈ zs, (Lit.int k n).wf = true

theorem IsRow.bytes {w : World} {a : Option Addr} {len cap : Nat} {zs : List Int} (h : IsRow .u8 w a len cap zs) : ∃ bs : List UInt8, bs.length = len ∧ len ≤ cap ∧ Vals w [] a (bs.map B) ∧ (a = none → cap = 0) := by
 rcases h with ⟨rfl, rfl, rfl, rfl⟩ | ⟨x, rfl, hl, _, hz, hcell, hwz⟩
 ·exact ⟨[], rfl, Nat.le_refl _, Vals.nil _ _ _, fun _ => rfl⟩
 ·have hlen : ((zs.take len).map (fun n => UInt8.ofNat n.toNat)).length = len := by simp; omega
  refine ⟨(zs.take len).map (fun n => UInt8.ofNat n.toNat), hlen, hl, fun i u hu => ⟨x, rfl, by simp, ?_⟩, fun h => by cases h⟩
  have hi : i < len ∧ i < zs.length := by
   have := (List.getElem?_eq_some_iff.1 hu).1
   simp at this
   omega
  rw [hcell i hi.2]
  simp only [List.getElem?_map, List.getElem?_take_of_lt hi.1, List.getElem?_eq_getElem hi.2, Option.map_some] at hu
  rw [List.getD_eq_getElem?_getD, List.getElem?_eq_getElem hi.2, ← hu]
  have hw8 := bounds_u8 (hwz zs[i] (List.getElem_mem hi.2))
  simp only [Option.getD_some, B, UInt8.toNat_ofNat']
  congr 2
  omega

theorem IsRow.ints {w : World} {a : Option Addr} {len cap : Nat} {zs : List Int} (h : IsRow .i64 w a len cap zs) : ∃ l : List Int, l.length = len ∧ len ≤ cap ∧ Vals w [] a (l.map I) ∧ (a = none → cap = 0) := by
 rcases h with ⟨rfl, rfl, rfl, rfl⟩ | ⟨x, rfl, hl, _, hz, hcell, hwz⟩
 ·exact ⟨[], rfl, Nat.le_refl _, Vals.nil _ _ _, fun _ => rfl⟩
 ·have hlen : (zs.take len).length = len := by simp; omega
  refine ⟨zs.take len, hlen, hl, fun i u hu => ⟨x, rfl, by simp, ?_⟩, fun h => by cases h⟩
  have hi : i < len ∧ i < zs.length := by
   have := (List.getElem?_eq_some_iff.1 hu).1
   simp at this
   omega
  rw [hcell i hi.2]
  simp only [List.getElem?_map, List.getElem?_take_of_lt hi.1, List.getElem?_eq_getElem hi.2, Option.map_some] at hu
  rw [List.getD_eq_getElem?_getD, List.getElem?_eq_getElem hi.2]
  exact hu
end Go.Proofs.YtolbalafhfpjbaaGreat.base
