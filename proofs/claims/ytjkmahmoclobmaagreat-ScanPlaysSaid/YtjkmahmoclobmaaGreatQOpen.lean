import GoSem.ClaimWide
import Derived.Test.YtjkmahmoclobmaaGreatQAlike
import Derived.ProofKit
import Derived.OpenShut
import Derived.ShutString
import Derived.ChangeOld
import Derived.Below
namespace Go.Proofs.YtjkmahmoclobmaaGreat.base
open Go.RowKit mem
theorem cell_int {P:Program}{w:World}{r:Reach}{base:Nat}{u:TypeId}{k:IntKind}{v:Value}(hu:P.underlying u=some (.int k))(h:Cell.okWide P w r base u v):∃ n,v= .int k n∧(Lit.int k n).wf=true:=by
 unfold Cell.okWide at h
 rw[hu]at h
 unfold Cell.ok at h
 cases v<;>simp_all
 simp [Lit.wf,h.2.1,h.2.2]

theorem row_ints {P:Program}{w:World}{r:Reach}{base:Nat}{ti:TypeId}{ts:List TypeId}(hi:∀ u∈ts,P.underlying u=some (.int .i64)):
  ∀ (cs:List Value),(∀ (i:Nat) (v:Value),cs[i]? = some v→∃ u,u∈ts∧Cell.okWide P w r base u v)→∃ xs:List Int,cs=xs.map I∧∀ x∈xs,(Lit.int .i64 x).wf=true
 | [],_=>⟨[],rfl,by simp⟩
 | c::cs,h=>by
  obtain⟨u,hu,hc⟩:=h 0 c rfl
  obtain⟨n,rfl,hn⟩:=cell_int (hi u hu) hc
  obtain⟨xs,rfl,hx⟩:=row_ints (ti:=ti) hi cs (fun i v hv=>h (i+1) v (by simpa using hv))
  exact⟨n::xs,rfl,by simpa using⟨hn,hx⟩⟩
theorem agg_ints {P:Program}{w:World}{r:Reach}{base:Nat}{t:TypeId}{v:Value}{ts:List TypeId}{n:Nat}
  (hu:((match P.underlying t with|some (.struct _)|some (.array _ _)=>true|_=>false):Bool)=true) (hc:P.cellTypes P.depth t=some ts) (hi:∀ u∈ts,P.underlying u=some (.int .i64))
  (hn:P.cellsOf t=n) (h:Value.okWide P w r base t v):∃ xs:List Int,v= .agg (xs.map I).toArray∧xs.length=n∧∀ x∈xs,(Lit.int .i64 x).wf=true:=by
 have h':∃ cs:Array Value,v= .agg cs∧cs.size=P.cellsOf t∧Row.okWide P w r base t cs:=by
  unfold Value.okWide at h
  revert hu h
  cases P.underlying t with
  | none=>simp
  | some u=>cases u<;>simp
 obtain⟨cs,rfl,hs,ts',ht,⟨_,_⟩,hcs⟩:=h'
 obtain rfl:ts=ts':=by rw[hc]at ht;injection ht
 obtain⟨xs,hx,hw⟩:=row_ints (P:=P) (w:=w) (r:=r) (base:=base) (ti:=0) hi cs.toList (fun i v hv=>by
  obtain⟨u,hu,hk⟩:=hcs i v (by simpa using hv)
  exact⟨u,List.mem_of_getElem? hu,hk⟩)
 refine⟨xs,?_,?_,hw⟩
 ·rw[←hx]
 ·rw[←hn,←hs,←Array.length_toList,hx,List.length_map]

theorem list3 {xs:List Int}(h:xs.length=3):∃ a0 a1 a2:Int,xs=[a0,a1,a2]:=by
 match xs,h with
 | [a0,a1,a2],_=>exact⟨a0,a1,a2,rfl⟩
theorem list5 {xs:List Int}(h:xs.length=5):∃ a0 a1 a2 a3 a4:Int,xs=[a0,a1,a2,a3,a4]:=by
 match xs,h with
 | [a0,a1,a2,a3,a4],_=>exact⟨a0,a1,a2,a3,a4,rfl⟩
end Go.Proofs.YtjkmahmoclobmaaGreat.base

namespace Go.Proofs.YtjkmahmoclobmaaGreat.base
open Go.ChangeShapes Go.WideShapes Go.ChangeAt Go.RowKit mem
def IsRow (k:IntKind)(w:World)(a:Option Addr)(len cap:Nat)(zs:List Int):Prop:=
 (a=none∧len=0∧cap=0∧zs=[])∨
 ∃ x,a=some x∧len≤cap∧cap≤maxLen∧zs.length=cap∧(∀ i,i<zs.length→w.cell? (x.add i)=some (.int k (zs.getD i 0)))∧∀ n∈zs,(Lit.int k n).wf=true

theorem IsRow.bytes {w:World}{a:Option Addr}{len cap:Nat}{zs:List Int}(h:IsRow .u8 w a len cap zs):∃ bs:List UInt8,bs.length=len∧len≤cap∧Vals w [] a (bs.map B)∧(a=none→cap=0):=by
 rcases h with⟨rfl,rfl,rfl,rfl⟩|⟨x,rfl,hl,_,hz,hcell,hwz⟩
 ·exact⟨[],rfl,Nat.le_refl _,Vals.nil _ _ _,fun _=>rfl⟩
 ·have hlen:((zs.take len).map (fun n=>UInt8.ofNat n.toNat)).length=len:=by simp;omega
  refine⟨(zs.take len).map (fun n=>UInt8.ofNat n.toNat),hlen,hl,fun i u hu=>⟨x,rfl,by simp,?_⟩,fun h=>by cases h⟩
  have hi:i<len∧i<zs.length:=by
   have:=(List.getElem?_eq_some_iff.1 hu).1
   simp at this
   omega
  rw[hcell i hi.2]
  simp only[List.getElem?_map,List.getElem?_take_of_lt hi.1,List.getElem?_eq_getElem hi.2,Option.map_some]at hu
  rw[List.getD_eq_getElem?_getD,List.getElem?_eq_getElem hi.2,←hu]
  have hw8:=bounds_u8 (hwz zs[i] (List.getElem_mem hi.2))
  simp only[Option.getD_some,B,UInt8.toNat_ofNat']
  congr 2
  omega

theorem IsRow.ints {w:World}{a:Option Addr}{len cap:Nat}{zs:List Int}(h:IsRow .i64 w a len cap zs):∃ l:List Int,l.length=len∧len≤cap∧Vals w [] a (l.map I)∧(a=none→cap=0):=by
 rcases h with⟨rfl,rfl,rfl,rfl⟩|⟨x,rfl,hl,_,hz,hcell,hwz⟩
 ·exact⟨[],rfl,Nat.le_refl _,Vals.nil _ _ _,fun _=>rfl⟩
 ·have hlen:(zs.take len).length=len:=by simp;omega
  refine⟨zs.take len,hlen,hl,fun i u hu=>⟨x,rfl,by simp,?_⟩,fun h=>by cases h⟩
  have hi:i<len∧i<zs.length:=by
   have:=(List.getElem?_eq_some_iff.1 hu).1
   simp at this
   omega
  rw[hcell i hi.2]
  simp only[List.getElem?_map,List.getElem?_take_of_lt hi.1,List.getElem?_eq_getElem hi.2,Option.map_some]at hu
  rw[List.getD_eq_getElem?_getD,List.getElem?_eq_getElem hi.2]
  exact hu
end Go.Proofs.YtjkmahmoclobmaaGreat.base
