import Derived.Test.YtjkmahmoclobmaaGreatYAlike
namespace Go.Proofs.YtjkmahmoclobmaaGreat.mem
open Go.RowKit
theorem Vals.far {w w':World}{S:List Nat}{A:Option Addr}{vs:List Value}(h:Vals w [] A vs)(k:Kept [] w w')(hS:∀ i∈S,w.heap.size≤i):Vals w' S A vs:=by
 intro i v hv;obtain⟨ad,rfl,_,hc⟩:=h i v hv;have hb:=block_lt_of_cell hc;rw[block_of_add]at hb;exact⟨ad,rfl,fun hm=>by have:=hS _ hm;omega,k.cell hc (by simp)⟩
theorem Vals.away {w:World}{S S':List Nat}{A:Option Addr}{vs:List Value}(h:Vals w S A vs)(hS:∀ i∈S',i∈S∨w.heap.size≤i):Vals w S' A vs:=by
 intro i v hv;obtain⟨ad,rfl,hn,hc⟩:=h i v hv;have hb:=block_lt_of_cell hc;rw[block_of_add]at hb;exact⟨ad,rfl,fun hm=>(hS _ hm).elim hn (fun h=>by omega),hc⟩
theorem Vals.new (w:World)(S:List Nat)(t:TypeId)(vs:List Value)(hS:∀ i∈S,i<w.heap.size):Vals (w.alloc (.cells vs.toArray t)) S (some ⟨w.heap.size,0,none⟩) vs:=
 Vals.blk 0 (Blk.new w t vs.toArray) (fun hm=>by have:=hS _ hm;omega) (fun i v hv=>by simpa using hv)
theorem Vals.lit (w:World)(S:List Nat)(t:TypeId)(cs:Array Value)(m:Nat×Nat)(vs:List Value)(hc:cs.toList=vs)(hS:∀ i∈S,i<w.heap.size):Vals (w.alloc (.cells cs t m)) S (some ⟨w.heap.size,0,none⟩) vs:=by
 intro i v hv;refine⟨_,rfl,fun hm=>by have:=hS _ hm;simp at this,?_⟩;rw[add_mk,cell_of_row _ _ _ cs t m (heap_alloc_new w _)];rw[←hc]at hv
 simpa using hv
theorem Kept.lit {w w2 w3:World}{S:List Nat}(h:Kept [] w w2)(o:Obj)(k:Kept S (w2.alloc o) w3)(hS:∀ i∈S,w.heap.size≤i):Kept [] w w3:=
 (h.alloc o).trans k (fun i hi=> .inr (hS i hi))
theorem Kept.lit_blk {w2 w3:World}{S:List Nat}{g:Nat}{t:TypeId}{cs:Array Value}(o:Obj)(k:Kept S (w2.alloc o) w3)(h:Blk w2 g t cs)(hS:g∉S):Blk w3 g t cs:=
 k.blk (h.alloc o) hS
theorem Vals.first {w:World}{S:List Nat}{A:Option Addr}{vs:List Value}(h:Vals w S A vs)(k:Nat):Vals w S A (vs.take k):=by
 intro i v hv;rw[List.getElem?_take]at hv
 split at hv
 ·exact h i v hv
 ·cases hv
end Go.Proofs.YtjkmahmoclobmaaGreat.mem
