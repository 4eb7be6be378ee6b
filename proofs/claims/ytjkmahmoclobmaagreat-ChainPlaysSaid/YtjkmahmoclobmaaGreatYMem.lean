import Derived.Below
import Derived.Laws.OwnMore
import Derived.Deep.Draws
import Derived.Laws.Rows
namespace Go.Proofs.YtjkmahmoclobmaaGreat.mem
open Go.RowKit
def Blk (w:World)(g:Nat)(t:TypeId)(cs:Array Value):Prop:=w.heap[g]? = some (.cells cs t (0,0))

section
variable {w w':World}{g:Nat}{t:TypeId}{cs:Array Value}
theorem Blk.lt (h:Blk w g t cs):g<w.heap.size:=by
 rcases Nat.lt_or_ge g w.heap.size with hlt|hge
 ·exact hlt
 ·unfold Blk at h;rw[Array.getElem?_eq_none hge]at h;cases h
theorem Blk.cell (h:Blk w g t cs)(i:Nat):w.cell? ⟨g,i,none⟩=cs[i]? := cell_of_row w g i cs t (0,0) h
theorem Blk.frozen (h:Blk w g t cs)(i:Nat):w.frozen? ⟨g,i,none⟩=false:=by
 unfold Blk at h
 simp [World.frozen?,h]
theorem Blk.new (w:World)(t:TypeId)(cs:Array Value):Blk (w.alloc (.cells cs t)) w.heap.size t cs:=heap_alloc_new w _
theorem Blk.drew (h:Blk w g t cs):Blk w.drew g t cs:=h
theorem Blk.drewN (h:Blk w g t cs)(n:Nat):Blk (w.drewN n) g t cs:=h
theorem Blk.alloc (h:Blk w g t cs)(o:Obj):Blk (w.alloc o) g t cs:=(Below.heap_alloc w o g h.lt).trans h
theorem Blk.set_ (h:Blk w g t cs)(i:Nat)(u:Value):Blk (w.setCell ⟨g,i,none⟩ u) g t (cs.setIfInBounds i u):=by
 unfold Blk at h ⊢
 simp [World.setCell,Array.getElem?_modify,h]
theorem Blk.far (h:Blk w g t cs){p:Addr}(hp:g≠p.block)(u:Value):Blk (w.setCell p u) g t cs:=(Below.heap_setCell w p u g hp).trans h
theorem Blk.far_ (h:Blk w g t cs){b:Nat}(hp:g≠b)(i:Nat)(u:Value):Blk (w.setCell ⟨b,i,none⟩ u) g t cs:=h.far hp u
end
theorem hide {p:Prop}(h:p):Hid p:=h
structure Kept (S:List Nat)(w w':World):Prop where
 os:w'.os=w.os
 tape:w'.tape=w.tape
 output:w'.output=w.output
 size:w.heap.size≤w'.heap.size
 block:∀ k,k<w.heap.size→k∉S→w'.heap[k]? = w.heap[k]?

section
variable {S S':List Nat}{a b w w':World}
theorem Kept.refl (S:List Nat)(w:World):Kept S w w:=⟨rfl,rfl,rfl,Nat.le_refl _,fun _ _ _=>rfl⟩
theorem Kept.trans (h:Kept S a b)(k:Kept S' b w)(hs:∀ i∈S',i∈S∨a.heap.size≤i):Kept S a w:=
 ⟨k.os.trans h.os,k.tape.trans h.tape,k.output.trans h.output,Nat.le_trans h.size k.size,fun i hi hn=>(k.block i (Nat.lt_of_lt_of_le hi h.size) (fun hm=>by
  rcases hs i hm with h1|h1
  ·exact hn h1
  ·omega)).trans (h.block i hi hn)⟩
theorem Kept.mono (h:Kept S a b)(hs:∀ i∈S,i∈S'∨a.heap.size≤i):Kept S' a b:=
 ⟨h.os,h.tape,h.output,h.size,fun i hi hn=>h.block i hi (fun hm=>by
  rcases hs i hm with h1|h1
  ·exact hn h1
  ·omega)⟩
theorem Kept.drewN (h:Kept S a w)(n:Nat):Kept S a (w.drewN n):=⟨h.os,h.tape,h.output,h.size,h.block⟩
theorem Kept.drew (h:Kept S a w):Kept S a w.drew:=⟨h.os,h.tape,h.output,h.size,h.block⟩
theorem Kept.alloc (h:Kept S a w)(o:Obj):Kept S a (w.alloc o):=
 ⟨h.os,h.tape,h.output,Nat.le_trans h.size (by simp),fun i hi hn=>(Below.heap_alloc w o i (Nat.lt_of_lt_of_le hi h.size)).trans (h.block i hi hn)⟩
theorem Kept.setCell (h:Kept S a w){p:Addr}(hp:p.block∈S∨a.heap.size≤p.block)(u:Value):Kept S a (w.setCell p u):=
 ⟨h.os,h.tape,h.output,by simpa [World.setCell]using h.size,fun i hi hn=>(Below.heap_setCell w p u i (by
  rintro rfl
  rcases hp with hp|hp
  ·exact hn hp
  ·omega)).trans (h.block i hi hn)⟩
theorem Kept.set_ (h:Kept S a w){b:Nat}(hp:b∈S∨a.heap.size≤b)(i:Nat)(u:Value):Kept S a (w.setCell ⟨b,i,none⟩ u):=h.setCell hp u
theorem Kept.below (h:Kept S a w)(hs:∀ i∈S,a.heap.size≤i):Below a.heap.size a w:=
 ⟨h.os,h.tape,h.output,h.size,fun i hi=>h.block i hi (fun hm=>by have:=hs i hm;omega)⟩
theorem Kept.blk {g:Nat}{t:TypeId}{cs:Array Value}(h:Kept S a w)(hb:Blk a g t cs)(hg:g∉S):Blk w g t cs:=(h.block g hb.lt hg).trans hb
theorem Kept.cell (h:Kept S a w){p:Addr}{v:Value}(hc:a.cell? p=some v)(hg:p.block∉S):w.cell? p=some v:=
 (World.cell?_of_block (w:=a) (h.block p.block (block_lt_of_cell hc) hg)).trans hc
end
theorem block_of_add (a:Addr)(n:Nat):(a.add n).block=a.block:=by unfold Addr.add;split<;>rfl
theorem add_mk (b i n:Nat):(⟨b,i,none⟩:Addr).add n=⟨b,i+n,none⟩:=by unfold Addr.add;split<;>simp_all
def Vals (w:World)(S:List Nat)(A:Option Addr)(vs:List Value):Prop:=
 ∀ (i:Nat) (v:Value),vs[i]? = some v→∃ ad,A=some ad∧ad.block∉S∧w.cell? (ad.add i)=some v
theorem Vals.kept {w w':World}{S S':List Nat}{A:Option Addr}{vs:List Value}(h:Vals w S A vs)(k:Kept S' w w')(hs:∀ i∈S',i∈S):Vals w' S A vs:=by
 intro i v hv;obtain⟨ad,rfl,hn,hc⟩:=h i v hv;exact⟨ad,rfl,hn,k.cell hc (by rw[block_of_add];exact fun hm=>hn (hs _ hm))⟩
theorem Vals.mono {w:World}{S S':List Nat}{A:Option Addr}{vs:List Value}(h:Vals w S A vs)(hs:∀ i∈S',i∈S):Vals w S' A vs:=by
 intro i v hv;obtain⟨ad,rfl,hn,hc⟩:=h i v hv;exact⟨ad,rfl,fun hm=>hn (hs _ hm),hc⟩
theorem add_of_add (a:Addr)(i j:Nat):(a.add i).add j=a.add (i+j):=by
 unfold Addr.add
 by_cases hi:i=0<;>by_cases hj:j=0<;>simp [hi,hj,Nat.add_assoc]
theorem add_pos (a:Addr)(k:Nat)(h:0<k):a.add k=⟨a.block,a.off+k,none⟩:=if_neg (by omega)
theorem Vals.cut {w:World}{S:List Nat}{A:Option Addr}{vs:List Value}(h:Vals w S A vs)(i m:Nat):Vals w S (A.map (fun x=>x.add i)) ((vs.drop i).take m):=by
 intro j v hv
 have hj:j<m:=by have:=(List.getElem?_eq_some_iff.1 hv).1;rw[List.length_take]at this;omega
 rw[List.getElem?_take_of_lt hj,List.getElem?_drop]at hv;obtain⟨ad,rfl,hn,hc⟩:=h _ v hv;exact⟨_,rfl,by rw[block_of_add];exact hn,by rw[add_of_add];exact hc⟩
theorem Vals.nil (w:World)(S:List Nat)(A:Option Addr):Vals w S A []:=by intro i v hv;simp at hv
theorem Vals.blk {w:World}{S:List Nat}{b:Nat}{t:TypeId}{cs:Array Value}{vs:List Value}(off:Nat)(h:Blk w b t cs)(hb:b∉S)(hv:∀ (i:Nat) (v:Value),vs[i]? = some v→cs[off+i]? = some v):
  Vals w S (some ⟨b,off,none⟩) vs:=by
 intro i v hi;exact⟨_,rfl,hb,by rw[add_mk,h.cell];exact hv i v hi⟩
def B (x:UInt8):Value:= .int .u8 (x.toNat:Int)
def I (x:Int):Value:= .int .i64 x
def Arr (w:World)(b cap:Nat)(bs:List UInt8):Prop:=
 ∃ cs:Array Value,Blk w b 5 cs∧cs.size=cap∧bs.length≤cap∧∀ (i:Nat) (x:UInt8),bs[i]? = some x→cs[i]? = some (B x)

section
variable {w w':World}{b cap:Nat}{bs:List UInt8}
theorem Arr.lt (h:Arr w b cap bs):b<w.heap.size:=by obtain⟨cs,h,_⟩:=h;exact h.lt
theorem Arr.len (h:Arr w b cap bs):bs.length≤cap:=by obtain⟨cs,_,_,h,_⟩:=h;exact h
theorem Arr.kept {S:List Nat}(h:Arr w b cap bs)(k:Kept S w w')(hb:b∉S):Arr w' b cap bs:=by
 obtain⟨cs,h,r⟩:=h;exact⟨cs,k.blk h hb,r⟩
theorem Arr.drewN (h:Arr w b cap bs)(n:Nat):Arr (w.drewN n) b cap bs:=h
theorem Arr.drew (h:Arr w b cap bs):Arr w.drew b cap bs:=h
theorem Arr.far (h:Arr w b cap bs){p:Addr}(hp:b≠p.block)(u:Value):Arr (w.setCell p u) b cap bs:=by
 obtain⟨cs,h,r⟩:=h;exact⟨cs,h.far hp u,r⟩
theorem Arr.far_ (h:Arr w b cap bs){g:Nat}(hp:b≠g)(i:Nat)(u:Value):Arr (w.setCell ⟨g,i,none⟩ u) b cap bs:=h.far hp u
theorem Arr.alloc (h:Arr w b cap bs)(o:Obj):Arr (w.alloc o) b cap bs:=by
 obtain⟨cs,h,r⟩:=h;exact⟨cs,h.alloc o,r⟩
theorem Arr.cell {i:Nat}(h:Arr w b cap bs)(hi:i<bs.length):w.cell? ⟨b,i,none⟩=some (B bs[i]):=by
 obtain⟨cs,h,_,_,r⟩:=h;rw[h.cell];exact r i _ (List.getElem?_eq_getElem hi)
theorem Arr.any {i:Nat}(h:Arr w b cap bs)(hi:i<cap):∃ v,w.cell? ⟨b,i,none⟩=some v:=by
 obtain⟨cs,h,hz,_,r⟩:=h;rw[h.cell];exact⟨cs[i],by simp [hz,hi]⟩
theorem Arr.frozen (h:Arr w b cap bs)(i:Nat):w.frozen? ⟨b,i,none⟩=false:=by
 obtain⟨cs,h,_⟩:=h;exact h.frozen i
theorem Arr.set_ {i:Nat}(h:Arr w b cap bs)(x:UInt8):Arr (w.setCell ⟨b,i,none⟩ (B x)) b cap (bs.set i x):=by
 obtain⟨cs,h,hz,hl,r⟩:=h;refine⟨_,h.set_ i (B x),by simpa using hz,by simpa using hl,fun j y hy=> ?_⟩;rw[List.getElem?_set]at hy;rw[Array.getElem?_setIfInBounds]
 split at hy
 ·rename_i e
  subst e
  split at hy
  ·injection hy with hy;subst hy;rw[if_pos rfl,if_pos (by omega)]
  ·cases hy
 ·rename_i e
  rw[if_neg e];exact r j y hy
theorem Arr.ne_ {g:Nat}{t:TypeId}{cs:Array Value}(h:Arr w b cap bs)(hg:Blk w g t cs)(ht:t≠5):b≠g:=by
 rintro rfl;obtain⟨cs',h,_⟩:=h;unfold Blk at h hg;rw[h]at hg;injection hg with hg;injection hg with _ hg;exact ht hg.symm
theorem Arr.vals {S:List Nat}(h:Arr w b cap bs)(hb:b∉S):Vals w S (some ⟨b,0,none⟩) (bs.map B):=by
 obtain⟨cs,h,_,_,r⟩:=h;refine Vals.blk 0 h hb fun i v hv=> ?_;rw[List.getElem?_map]at hv;obtain⟨x,hx,rfl⟩:=Option.map_eq_some_iff.1 hv;rw[Nat.zero_add];exact r i x hx
end
def over (bs:List UInt8)(at_:Nat)(xs:List UInt8):List UInt8:=bs.take at_++(xs++bs.drop (at_+xs.length))
theorem over_nil (bs:List UInt8)(at_:Nat):over bs at_ []=bs:=by simp [over]
theorem over_all (bs xs:List UInt8)(h:xs.length=bs.length):over bs 0 xs=xs:=by simp [over,h]
theorem over_length (bs:List UInt8)(at_:Nat)(xs:List UInt8)(h:at_+xs.length≤bs.length):(over bs at_ xs).length=bs.length:=by simp [over];omega
theorem over_snoc (bs:List UInt8)(at_:Nat)(xs:List UInt8)(x:UInt8)(h:at_+xs.length<bs.length):(over bs at_ xs).set (at_+xs.length) x=over bs at_ (xs++[x]):=by
 have h1:(bs.take at_).length=at_:=by simp;omega
 unfold over
 rw[List.set_append,h1,if_neg (by omega),show at_+xs.length-at_=xs.length by omega,List.set_append,if_neg (by omega),Nat.sub_self,
  List.drop_eq_getElem_cons h,List.set_cons_zero]
 simp [Nat.add_assoc]

end Go.Proofs.YtjkmahmoclobmaaGreat.mem
