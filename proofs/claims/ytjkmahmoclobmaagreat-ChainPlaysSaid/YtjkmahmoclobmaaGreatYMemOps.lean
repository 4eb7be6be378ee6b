import Derived.Test.YtjkmahmoclobmaaGreatYMem
import Derived.Maps.AppendAt
import Derived.Deep.AppendLies
import Derived.Laws.CopyOwn
import Derived.RegionTactic
import Derived.OwnWalk
namespace Go.Proofs.YtjkmahmoclobmaaGreat.mem
open Go.RowKit
theorem oneCell_B (l:List UInt8):∀ v∈l.map B,v.oneCell'=true:=by
 intro v hv;obtain⟨x,_,rfl⟩:=List.mem_map.1 hv
 rfl
section
variable {P:Program}{w:World}
theorem run_append_vals (base:Nat)(t ty e:TypeId)(i:TypeInfo)(z:Value)(size bytes:Nat)(ht:P.underlying t=some (.slice e))(hi:P.info? e=some i)(hz:i.zero=some z)
  (hsize:i.size=size) (hby:i.bytes=bytes) (hzs:z.cells.size=size) (hsz:0<size)
  (v:Value) (n:Nat) (xs:List Value) (hown:w.ownsRow base e size v n xs)
  (S:List Nat) (A:Option Addr) (m c:Nat) (news:List Value) (hl:news.length=m*size) (hr:Vals w S A news) (h1:∀ u∈news,u.oneCell'=true)
  (h63:n+m≤maxLen) (hbytes:(n+m)*bytes≤140737488355328) (hbase:base≤w.heap.size):
  ∃ v' w',(Builtin.append_ #[t,t] ty #[v,.slice A m c]).run P w= .ok v' w'∧w'.ownsRow base e size v' (n+m) (xs++news)∧w.grownBy w' v.ownBlock∧
   (v'.ownBlock=v.ownBlock∨v'.ownBlock=some w.heap.size):=by
 by_cases hm:m=0
 ·subst hm;obtain rfl:news=[]:=List.eq_nil_of_length_eq_zero (by simpa using hl)
  rcases A with _|ad
  ·refine⟨v,w,?_,by simpa using hown,World.grownBy.refl w _,.inl rfl⟩
   rcases hown.2 with⟨rfl,rfl⟩|⟨g,cap,cur,rfl,_,_,hnc,_⟩
   ·simp [Builtin.append_,run_underlying ht,sizeOf,typeInfo,hi,Builtin.lenOf,Builtin.firstCells]
   ·simp [Builtin.append_,run_underlying ht,sizeOf,typeInfo,hi,Builtin.lenOf,Builtin.firstCells,hnc,storeCells]
  ·obtain⟨v',w',hrun,h2,h3,_,h5⟩:=run_append_own_at (P:=P) w base t ty e i z size bytes ht hi hz hsize hby hzs hsz v n xs hown ad 0 c [] hl (by simp) h1 h63 hbytes hbase;exact⟨v',w',hrun,h2,h3,h5⟩
 ·have hpos:0<news.length:=by rw[hl];exact Nat.mul_pos (by omega) hsz
  obtain⟨ad,rfl,_,_⟩:=hr 0 news[0] (by simp [hpos])
  have hcells:∀ j u,news[j]? = some u→w.cell? (ad.add j)=some u:=by
   intro j u hu;obtain⟨ad',h,_,hc⟩:=hr j u hu;injection h with h;subst h;exact hc
  obtain⟨v',w',hrun,h2,h3,_,h5⟩:=run_append_own_at (P:=P) w base t ty e i z size bytes ht hi hz hsize hby hzs hsz v n xs hown ad m c news hl hcells h1 h63 hbytes hbase;exact⟨v',w',hrun,h2,h3,h5⟩

theorem wp_append_vals {o:Oper}{a:Act}{K:Act→World→Prop}{Q:Exit→Act→World→Prop}(s x:Operand)(t:TypeId)
  (ho:o.op= .call {callee:= .builtin .append,args:=#[s,x],argTypes:=#[t,t]})
  (base:Nat) (e:TypeId) (z:Value) (size bytes:Nat) (ht:P.underlying t=some (.slice e)) (hi:(P.info? e).map (fun i=>(i.zero,i.size,i.bytes))=some (some z,size,bytes))
  (hzs:z.cells.size=size) (hsz:0<size)
  (v:Value) (n:Nat) (xs:List Value) (hs:a.eval s=v) (hown:w.ownsRow base e size v n xs)
  (S:List Nat) (A:Option Addr) (m c:Nat) (news:List Value) (hx:a.eval x= .slice A m c) (hl:news.length=m*size) (hr:Vals w S A news) (h1:∀ u∈news,u.oneCell'=true)
  (h63:n+m≤maxLen) (hbytes:(n+m)*bytes≤140737488355328) (hbase:base≤w.heap.size)
  (h:∀ v' w',w'.ownsRow base e size v' (n+m) (xs++news)→Kept v.ownBlock.toList w w'→(v'.ownBlock=v.ownBlock∨v'.ownBlock=some w.heap.size)→K (a.put o.dst v') w'):o.wp P a w K Q:=by
 obtain⟨i,hi,hzz⟩:=Option.map_eq_some_iff.1 hi;simp only[Prod.mk.injEq]at hzz;obtain⟨hz,hsize,hby⟩:=hzz;obtain⟨v',w',hrun,h2,h3,h4⟩:=run_append_vals (P:=P) base t o.type e i z size bytes ht hi hz hsize hby hzs hsz v n xs hown S A m c news hl hr h1 h63 hbytes hbase;unfold Oper.wp execOp;simp only[ho,resolve,invoke,builtin,Sem.run_bind,Sem.run_pure,Result.andThen_ok,List.map_toArray,List.map_cons,List.map_nil,hs,hx,hrun];exact h v' w' h2 ⟨h3.os,h3.tape,h3.output,h3.size,fun k hk hn=>h3.block k hk (fun e=>hn (by rw[←e];simp))⟩ h4

theorem wpList_append_vals {ops:Array Oper}{rest:List Oper}{o:Oper}{a:Act}{Q:Exit→Act→World→Prop}(hgd:o.guard=none)(s x:Operand)(t:TypeId)
  (ho:o.op= .call {callee:= .builtin .append,args:=#[s,x],argTypes:=#[t,t]})
  (base:Nat) (e:TypeId) (z:Value) (size bytes:Nat) (ht:P.underlying t=some (.slice e)) (hi:(P.info? e).map (fun i=>(i.zero,i.size,i.bytes))=some (some z,size,bytes))
  (hzs:z.cells.size=size) (hsz:0<size)
  (v:Value) (n:Nat) (xs:List Value) (hs:a.eval s=v) (hown:w.ownsRow base e size v n xs)
  (S:List Nat) (A:Option Addr) (m c:Nat) (news:List Value) (hx:a.eval x= .slice A m c) (hl:news.length=m*size) (hr:Vals w S A news) (h1:∀ u∈news,u.oneCell'=true)
  (h63:n+m≤maxLen) (hbytes:(n+m)*bytes≤140737488355328) (hbase:base≤w.heap.size)
  (h:∀ v' w',w'.ownsRow base e size v' (n+m) (xs++news)→Kept v.ownBlock.toList w w'→(v'.ownBlock=v.ownBlock∨v'.ownBlock=some w.heap.size)→wpList P ops Q rest (a.put o.dst v') w'):wpList P ops Q (o::rest) a w:=
 wpList_plain hgd fun _ hK=>wp_append_vals s x t ho base e z size bytes ht hi hzs hsz v n xs hs hown S A m c news hx hl hr h1 h63 hbytes hbase fun v' w' h2 h3 h4=>hK _ _ (h v' w' h2 h3 h4)
theorem step_append_vals {ops:Array Oper}{o:Oper}{a:Act}{K:Act→World→Prop}{Q:Exit→Act→World→Prop}{E:Prop}(hgd:o.guard=none)(s x:Operand)(t:TypeId)
  (ho:o.op= .call {callee:= .builtin .append,args:=#[s,x],argTypes:=#[t,t]})
  (base:Nat) (e:TypeId) (z:Value) (size bytes:Nat) (ht:P.underlying t=some (.slice e)) (hi:(P.info? e).map (fun i=>(i.zero,i.size,i.bytes))=some (some z,size,bytes))
  (hzs:z.cells.size=size) (hsz:0<size)
  (v:Value) (n:Nat) (xs:List Value) (hs:a.eval s=v) (hown:w.ownsRow base e size v n xs)
  (S:List Nat) (A:Option Addr) (m c:Nat) (news:List Value) (hx:a.eval x= .slice A m c) (hl:news.length=m*size) (hr:Vals w S A news) (h1:∀ u∈news,u.oneCell'=true)
  (h63:n+m≤maxLen) (hbytes:(n+m)*bytes≤140737488355328) (hbase:base≤w.heap.size)
  (h:∀ v' w',w'.ownsRow base e size v' (n+m) (xs++news)→Kept v.ownBlock.toList w w'→(v'.ownBlock=v.ownBlock∨v'.ownBlock=some w.heap.size)→K (a.put o.dst v') w'):
  if Region.wanted o (yielded ops a.tmps)=true then Oper.wp P o a w K Q else E:=by
 have hw:Region.wanted o (yielded ops a.tmps)=true:=by simp [Region.wanted,hgd]
 rw[if_pos hw];exact wp_append_vals s x t ho base e z size bytes ht hi hzs hsz v n xs hs hown S A m c news hx hl hr h1 h63 hbytes hbase h
theorem wpList_copy_bytes {ops:Array Oper}{rest:List Oper}{o:Oper}{a:Act}{Q:Exit→Act→World→Prop}(hgd:o.guard=none)(d s:Operand)(dT sT:TypeId)
  (ho:o.op= .call {callee:= .builtin .copy,args:=#[d,s],argTypes:=#[dT,sT]}) (hu:P.underlying dT=some (.slice 5)) (hsz:(P.info? 5).map (·.size)=some 1)
  (dp sp:Option Addr) (dLen dCap sLen sCap:Nat) (hd:a.eval d= .slice dp dLen dCap) (hs:a.eval s= .slice sp sLen sCap)
  (xs:List UInt8) (hn:xs.length=Nat.min sLen dLen) (S:List Nat) (hsrc:Vals w S sp (xs.map B))
  (g off cap:Nat) (bs:List UInt8) (hdst:0<xs.length→dp=some ⟨g,off,none⟩∧Arr w g cap bs∧off+xs.length≤bs.length)
  (h:∀ w',Kept [g] w w'→(Arr w g cap bs→Arr w' g cap (over bs off xs))→(xs=[]→w'=w)→wpList P ops Q rest (a.put o.dst (goInt xs.length)) w'):
  wpList P ops Q (o::rest) a w:=by
 refine wpList_plain hgd fun K hK=> ?_
 by_cases h0:xs.length=0
 ·obtain rfl:xs=[]:=List.eq_nil_of_length_eq_zero h0;have hrun:=run_copy_none (P:=P) w dT sT o.type _ dp sp dLen dCap sLen sCap hu hsz hn.symm;unfold Oper.wp
  simp [execOp,ho,resolve,invoke,builtin,hd,hs,hrun,Result.andThen]
  exact hK _ _ (h w (Kept.refl _ _) (fun ha=>by rw[over_nil];exact ha) (fun _=>rfl))
 ·obtain⟨rfl,⟨cur,hg,hcz,hbl,hr⟩,hfit⟩:=hdst (by omega)
  have hpos:0<xs.length:=by omega
  obtain⟨ad,rfl,_,_⟩:=hsrc 0 (B xs[0]) (by rw[List.getElem?_map,List.getElem?_eq_getElem hpos];rfl)
  have hcells:∀ j v,(xs.map B)[j]? = some v→w.cell? (ad.add j)=some v:=by
   intro j u hu;obtain⟨ad',h,_,hc⟩:=hsrc j u hu;injection h with h;subst h;exact hc
  have hrun:=run_copy_row (P:=P) w dT sT o.type _ g off dLen dCap ad sLen sCap cur _ (xs.map B) hu hsz hg (by simpa using hn) hcells (by rw[List.length_map];omega) (oneCell_B xs);unfold Oper.wp
  simp [execOp,ho,resolve,invoke,builtin,hd,hs,hrun,Result.andThen]
  have hk:=hK _ _ (h (w.setRow g (cur.toList.take off++(xs.map B++cur.toList.drop (off+(xs.map B).length))).toArray) ⟨rfl,rfl,rfl,by simp,fun k _ hk=>setRow_other w g k _ (by simpa using hk)⟩ (fun _=>
   ⟨_,setRow_heap w g cur _ _ _ hg,by simp;omega,by rw[over_length _ _ _ hfit];exact hbl,fun i x hx=> ?_⟩) (fun e=>absurd (by rw[e];rfl) h0))
  ·rw[Oper.upon_value]
   simpa using hk
  ·rw[List.getElem?_toArray]
   have hcl:cur.toList.length=cap:=by simpa using hcz
   have h1:(cur.toList.take off).length=off:=by simp;omega
   have h2:(bs.take off).length=off:=by simp;omega
   unfold over at hx;rw[List.getElem?_append]at hx ⊢;rw[h1];rw[h2]at hx
   split at hx
   ·rename_i hi
    rw[if_pos hi,List.getElem?_take_of_lt hi];rw[List.getElem?_take_of_lt hi]at hx
    simpa using hr i x hx
   ·rename_i hi
    rw[if_neg hi];rw[List.getElem?_append]at hx ⊢;rw[List.length_map]
    split at hx
    ·rename_i hj
     rw[if_pos hj,List.getElem?_map,hx]
     rfl
    ·rename_i hj
     rw[if_neg hj];rw[List.getElem?_drop]at hx ⊢
     simpa using hr _ x hx
end
end Go.Proofs.YtjkmahmoclobmaaGreat.mem
