import Derived.Test.YtjkmahmoclobmaaGreatYScanKitCore
import Derived.Test.YtjkmahmoclobmaaGreatYAlike
import Derived.ProofKit
import Derived.OpenShut
import Derived.ShutString
import Derived.ChangeOld
import Derived.Below
import Derived.Deep.Slices
import Derived.Deep.Fields
import Derived.Test.YtjkmahmoclobmaaGreatYChainLaid
namespace Go.Proofs.YtjkmahmoclobmaaGreat.sc
set_option linter.unusedSimpArgs false
set_option linter.unusedVariables false
open Go.ChangeShapes Go.WideShapes Go.ChangeAt Go.RowKit Go.Deep mem base
section
variable {H:Type}{enc:TypeId×Value→H}{P:Program}{w:World}{base:Nat}{spare:Nat→Bool}{held:Bool}
theorem slice_fields {t e:TypeId}{fs:Array Field}{fuel:Nat}{v:Value}{x:DataW H×List MemPlace}(ht:P.underlying t=some (.slice e))(he:P.underlying e=some (.struct fs))
  (hone:oneCellFields P fs=true) (hC:P.cellsOf e=fs.size) (h:DataW.trod enc P w base spare held fuel t [v]=some x):
  ∃ A len cap,v= .slice A len cap∧len≤cap∧cap≤maxLen∧∀ i,i<len→∃ (a:Addr) (n:Nat),A=some a∧∀ (j:Nat) (f:Field),fs[j]? = some f→∃ (v:Value) (y:DataW H×List MemPlace),w.cell? (a.add (i*fs.size+j))=some v∧DataW.trod enc P w base spare held n f.type [v]=some y:=by
 rcases open_slice ht h with⟨h0,_⟩|⟨a,len,cap,m,n,D,Pl,hcs,hb,hl,hm,hmm,hx,hel⟩
 ·simp at h0;exact⟨none,0,0,h0,Nat.le_refl _,Nat.zero_le _,fun i hi=>absurd hi (Nat.not_lt_zero i)⟩
 ·simp at hcs;refine⟨some a,len,cap,hcs,hl,hm,fun i hi=> ?_⟩
  have him:i<m:=by
   rw[hmm]
   split<;>omega
  obtain⟨cs',hc,ht'⟩:=hel i him;rw[hC]at hc;obtain⟨ys,n',hn',hy,hlen,hyl,hf⟩:=DataW.trod_struct he ht';obtain⟨_,hcl,hat⟩:=World.cells?_some hc;refine⟨a,n',rfl,fun j f hj=> ?_⟩;obtain⟨ho,hk⟩:=hone_of hone j f hj;have hjl:j<fs.size:=(Array.getElem?_eq_some_iff.1 hj).1;have hcell:=hat j hjl;have hv:cs'[j]? = some (cs'[j]'(by omega)):=List.getElem?_eq_getElem (by omega);have h1:=hf j f hj;rw[ho,hk]at h1
  have hone':(cs'.drop j).take 1=[cs'[j]'(by omega)]:=by
   rw[List.drop_eq_getElem_cons (by omega)]
   rfl
  rw[hone']at h1;have hys:ys[j]? = some (ys[j]'(by omega)):=List.getElem?_eq_getElem (by omega);exact⟨_,_,by rw[←Go.Deep.add_add,hcell,hv],h1.trans hys⟩
end
section
variable {H:Type}{enc:TypeId×Value→H}{w:World}{base:Nat}{held:Bool}
theorem ints_of {fuel:Nat}{v:Value}{x:DataW H×List MemPlace}(h:DataW.trod enc Tryz.prog w base (fun _=>true) held fuel 72 [v]=some x):
  ∃ (A:Option Addr) (l:List Int) (c:Nat),v= .slice A l.length c∧Vals w [] A (l.map I):=by
 rcases open_ints Tryz.underlying72 Tryz.underlying3 (by kernel_rfl) h with⟨hcs,_⟩|⟨a,len,cap,zs,hcs,_,hl,hm,hz,_,hcell,hwz⟩
 ·simp at hcs;exact⟨none,[],0,hcs,Vals.nil _ _ _⟩
 ·simp at hcs hz;refine⟨some a,zs.take len,cap,by rw[hcs,List.length_take,Nat.min_eq_left (by omega)],fun i u hu=>⟨a,rfl,by simp,?_⟩⟩
  have hi:i<len∧i<zs.length:=by
   have:=(List.getElem?_eq_some_iff.1 hu).1
   simp at this
   omega
  rw[hcell i hi.2];simp only[List.getElem?_map,List.getElem?_take_of_lt hi.1,List.getElem?_eq_getElem hi.2,Option.map_some]at hu;rw[List.getD_eq_getElem?_getD,List.getElem?_eq_getElem hi.2];exact hu
theorem KrIn.snoc {w:World}{S:List Nat}{r:Kr}{L:Option Addr}{c:Nat}(hv:Vals w S L (r.ks.map I)):∀ {l:List Kr} {vs:List Value},KrIn w S l vs→KrIn w S (l++[r]) (vs++[.slice L r.ks.length c,.int .i64 r.fill,.int .i64 r.skew,.int .i64 r.twist,.int .i64 r.up])∧vs.length=5*l.length
 | [],_,h=>by
  cases h;exact⟨⟨L,c,[],rfl,hv,rfl⟩,rfl⟩
 | _::_,_,⟨L',c',rest,h1,h2,h3⟩=>by
  subst h1;obtain⟨i1,i2⟩:=KrIn.snoc hv h3;exact⟨⟨L',c',_,rfl,h2,i1⟩,by simp [i2];omega⟩
def RecsIn (w:World)(v:Value):Prop:=∃ (A:Option Addr) (rs:List Kr) (c:Nat) (vs:List Value),v= .slice A rs.length c∧rs.length≤9223372036854775807∧Vals w [] A vs∧KrIn w [] rs vs
theorem recs_of {fuel:Nat}{v:Value}{x:DataW H×List MemPlace}(h:DataW.trod enc Tryz.prog w base (fun _=>true) held fuel 25 [v]=some x):RecsIn w v:=by
 obtain⟨A,len,cap,rfl,hl,hm,hf⟩:=slice_fields Tryz.underlying25 Tryz.underlying117 (by kernel_rfl) (by kernel_rfl) h
 have hmx:maxLen=9223372036854775807:=by decide
 have key:∀ n,n≤len→∃ (rs:List Kr) (vs:List Value),rs.length=n∧Vals w [] A vs∧KrIn w [] rs vs:=by
  intro n
  induction n with
  | zero=>exact fun _=>⟨[],[],rfl,Vals.nil _ _ _,rfl⟩
  | succ n ih=>
   intro hn;obtain⟨rs,vs,h1,h2,h3⟩:=ih (by omega);obtain⟨a,m,hA,hg⟩:=hf n (by omega);obtain⟨v0,y0,c0,t0⟩:=hg 0 _ rfl;obtain⟨v1,y1,c1,t1⟩:=hg 1 _ rfl;obtain⟨v2,y2,c2,t2⟩:=hg 2 _ rfl;obtain⟨v3,y3,c3,t3⟩:=hg 3 _ rfl;obtain⟨v4,y4,c4,t4⟩:=hg 4 _ rfl;obtain⟨L,ks,c,rfl,hv⟩:=ints_of t0;obtain⟨fi,e1,_,_⟩:=DataW.trod_int Tryz.underlying3 t1;obtain⟨sk,e2,_,_⟩:=DataW.trod_int Tryz.underlying3 t2;obtain⟨tw,e3,_,_⟩:=DataW.trod_int Tryz.underlying3 t3;obtain⟨up,e4,_,_⟩:=DataW.trod_int Tryz.underlying3 t4;simp at e1 e2 e3 e4;subst e1 e2 e3 e4;obtain⟨i1,i2⟩:=KrIn.snoc (r:=⟨ks,fi,sk,tw,up⟩) (c:=c) hv h3;refine⟨_,_,by rw[List.length_append,h1];rfl,fun i u hu=> ?_,i1⟩
   by_cases hi:i<vs.length
   ·rw[List.getElem?_append_left hi]at hu;exact h2 i u hu
   ·rw[List.getElem?_append_right (by omega)]at hu;refine⟨a,hA,by simp,?_⟩
    have hik:i-vs.length<5:=by
     have:=(List.getElem?_eq_some_iff.1 hu).1
     simpa using this
    obtain⟨k,hk⟩:∃ k,i-vs.length=k:=⟨_,rfl⟩;rw[hk]at hu hik
    have hin:i=n*5+k:=by omega
    rw[hin]
    rcases(show k=0∨k=1∨k=2∨k=3∨k=4 by omega)with rfl|rfl|rfl|rfl|rfl
    ·cases hu;exact c0
    ·cases hu;exact c1
    ·cases hu;exact c2
    ·cases hu;exact c3
    ·cases hu;exact c4
 obtain⟨rs,vs,h1,h2,h3⟩:=key len (Nat.le_refl _);exact⟨A,rs,cap,vs,by rw[h1],by omega,h2,h3⟩
end
end Go.Proofs.YtjkmahmoclobmaaGreat.sc
namespace Go.Proofs.YtjkmahmoclobmaaGreat.sc
set_option linter.unusedSimpArgs false
set_option linter.unusedVariables false
open Go.ChangeShapes Go.WideShapes Go.ChangeAt Go.RowKit Go.Deep mem base
section
variable {H:Type}{enc:TypeId×Value→H}{w:World}{base:Nat}{held:Bool}
theorem PtIn.snoc3 {w:World}{S:List Nat}{t:Pt}{A:Option Addr}{c:Nat}{us:List Value}(hv:Vals w S A us)(hk:KrIn w S t.rs us):∀ {l:List Pt} {vs:List Value},PtIn w S l vs→PtIn w S (l++[t]) (vs++[.slice A t.rs.length c,.int .i64 t.nx,.bool t.lost])∧vs.length=3*l.length
 | [],_,h=>by
  cases h;exact⟨⟨A,c,us,[],rfl,hv,hk,rfl⟩,rfl⟩
 | _::_,_,⟨A',c',us',rest,h1,h2,h3,h4⟩=>by
  subst h1;obtain⟨i1,i2⟩:=PtIn.snoc3 (c:=c) hv hk h4;exact⟨⟨A',c',us',_,rfl,h2,h3,i1⟩,by simp [i2];omega⟩
def PartsIn14 (w:World)(v:Value):Prop:=∃ (A:Option Addr) (ts:List Pt) (c:Nat) (vs:List Value),v= .slice A ts.length c∧ts.length≤9223372036854775807∧Vals w [] A vs∧PtIn w [] ts vs
theorem parts_of14 {fuel:Nat}{v:Value}{x:DataW H×List MemPlace}(h:DataW.trod enc Tryz.prog w base (fun _=>true) held fuel 62 [v]=some x):PartsIn14 w v:=by
 obtain⟨A,len,cap,rfl,hl,hm,hf⟩:=slice_fields Tryz.underlying62 Tryz.underlying160 (by kernel_rfl) (by kernel_rfl) h
 have hmx:maxLen=9223372036854775807:=by decide
 have key:∀ n,n≤len→∃ (ts:List Pt) (vs:List Value),ts.length=n∧Vals w [] A vs∧PtIn w [] ts vs:=by
  intro n
  induction n with
  | zero=>exact fun _=>⟨[],[],rfl,Vals.nil _ _ _,rfl⟩
  | succ n ih=>
   intro hn;obtain⟨ts,vs,h1,h2,h3⟩:=ih (by omega);obtain⟨a,m,hA,hg⟩:=hf n (by omega);obtain⟨v0,y0,c0,t0⟩:=hg 0 _ rfl;obtain⟨v1,y1,c1,t1⟩:=hg 1 _ rfl;obtain⟨v2,y2,c2,t2⟩:=hg 2 _ rfl;obtain⟨B,rs,c,us,rfl,_,hv,hk⟩:=recs_of t0;obtain⟨nx,e1,_,_⟩:=DataW.trod_int Tryz.underlying3 t1;obtain⟨lo,e2,_⟩:=DataW.trod_bool Tryz.underlying4 t2;simp at e1 e2;subst e1 e2;obtain⟨i1,i2⟩:=PtIn.snoc3 (t:=⟨rs,nx,lo⟩) (c:=c) hv hk h3;refine⟨_,_,by rw[List.length_append,h1];rfl,fun i u hu=> ?_,i1⟩
   by_cases hi:i<vs.length
   ·rw[List.getElem?_append_left hi]at hu;exact h2 i u hu
   ·rw[List.getElem?_append_right (by omega)]at hu;refine⟨a,hA,by simp,?_⟩
    have hik:i-vs.length<3:=by
     have:=(List.getElem?_eq_some_iff.1 hu).1
     simpa using this
    obtain⟨k,hk⟩:∃ k,i-vs.length=k:=⟨_,rfl⟩;rw[hk]at hu hik
    have hin:i=n*3+k:=by omega
    rw[hin]
    rcases(show k=0∨k=1∨k=2 by omega)with rfl|rfl|rfl
    ·cases hu;exact c0
    ·cases hu;exact c1
    ·cases hu;exact c2
 obtain⟨ts,vs,h1,h2,h3⟩:=key len (Nat.le_refl _);exact⟨A,ts,cap,vs,by rw[h1],by omega,h2,h3⟩
end
end Go.Proofs.YtjkmahmoclobmaaGreat.sc
