/- Package paged: the contracts with numbers as they stand. -/
import Derived.Test.YtfeepmahipecpaaPagedNewInt
namespace Go.Proofs.Ytfeepmahipecpaa.pd
open Go.RowKit Go.Proofs.Ytfeepmahipecpaa.mem Go.Proofs.Ytfeepmahipecpaa.base

theorem new_int_at (n per : Int) (v : Int) (w : World) (n' per' m : Nat) (hn : n = n') (hp : per = per') (hn1 : 1 ≤ n') (hn2 : n' ≤ 65536) (hp1 : 1 ≤ per') (hp2 : per' ≤ 65536) (hm : m = (n' + per' - 1) / per') :
    Calls Try.prog 33 #[.int .i64 n, .int .i64 per, .int .i64 v] w fun e w' => ∃ p V D, e = .returned (.pointer (some ⟨p, 0, none⟩)) ∧ w.heap.size ≤ p ∧ w.heap.size ≤ V ∧ w.heap.size ≤ D ∧
      Pint w' p V D per' ((List.replicate n' v).map I) (List.replicate m false) ∧ Kept [] w w' := by
  subst hn hp
  rw [List.map_replicate]
  exact new_int_yes n' per' v w hn1 hn2 hp1 hp2 m hm

section
variable {w : World} {p V D per : Nat} {l : List Int} {ds : List Bool}

theorem set_int_at (h : Pint w p V D per (l.map I) ds) (i : Int) (i' : Nat) (hi : i = i') (x v : Int) (hx : l[i']? = some x) (ds' : List Bool) (hds : ds' = if x = v then ds else ds.set (i' / per) true) :
    Calls Try.prog 46 #[.pointer (some ⟨p, 0, none⟩), .int .i64 i, .int .i64 v] w fun e w' =>
      e = .returned (.bool true) ∧ Pint w' p V D per ((l.set i' v).map I) ds' ∧ Kept [V, D] w w' := by
  subst hi
  rw [List.map_set]
  exact set_int_yes h i' x v (by rw [List.getElem?_map, hx]; rfl) ds' hds

theorem get_int_at (h : Pint w p V D per (l.map I) ds) (i : Int) (i' : Nat) (hi : i = i') (x : Int) (hx : l[i']? = some x) :
    Calls Try.prog 45 #[.pointer (some ⟨p, 0, none⟩), .int .i64 i] w fun e w' => e = .returned (.tuple #[.int .i64 x, .bool true]) ∧ w = w' := by
  subst hi
  exact get_int_yes h i' _ (by rw [List.getElem?_map, hx]; rfl)
end
end Go.Proofs.Ytfeepmahipecpaa.pd
