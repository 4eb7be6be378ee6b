import Derived.Test.YtjkmahmoclobmaaGreatYDiskCore
import Derived.StillTailTactics
import Derived.BigQuiet
set_option maxRecDepth 100000
set_option maxHeartbeats 2000000
namespace Go.Proofs.YtjkmahmoclobmaaGreat.disk
open Go.RowKit mem base
def sl (g:Nat):Value:= .slice (some ⟨g,0,none⟩) 64 64
def hcells (l:List (Nat×List UInt8))(gs:List Nat):List Value:=(l.zip gs).flatMap fun x=>[I x.1.1,sl x.2]
theorem hcells_snoc (l:List (Nat×List UInt8))(gs:List Nat)(h:gs.length=l.length)(x:Nat×List UInt8)(g:Nat):hcells (l++[x]) (gs++[g])=hcells l gs++[I x.1,sl g]:=by
 unfold hcells;rw[List.zip_append (by omega),List.flatMap_append]
 simp
theorem hcells_at (l:List (Nat×List UInt8))(gs:List Nat)(h:gs.length=l.length)(k:Nat)(x:Nat×List UInt8)(g:Nat)(hx:l[k]? = some x)(hg:gs[k]? = some g):(hcells l gs)[k*2]? = some (I x.1)∧(hcells l gs)[k*2+1]? = some (sl g):=by
 induction l generalizing gs k with
 | nil=>simp at hx
 | cons y l ih=>
  cases gs with
  | nil=>simp at h
  | cons g0 gs=>
   have e:hcells (y::l) (g0::gs)=I y.1::sl g0::hcells l gs:=by simp [hcells]
   rw[e]
   cases k with
   | zero=>
    simp at hx hg;subst hx hg;exact⟨rfl,rfl⟩
   | succ k=>
    have:=ih gs (by simpa using h) k (by simpa using hx) (by simpa using hg)
    rw[show(k+1)*2=k*2+2 by omega]
    simpa using this

structure RDat (w:World)(r:Nat)(D:Dk)(gs gf:Nat)(hA:Option Addr)(sgs hgs:List Nat)(cs cf hc:Nat)(fv:Int)(lA:Option Addr)(lc:Nat):Prop where
 blk:Blk w r 101 #[.slice (some ⟨gs,0,none⟩) D.n cs,.slice hA D.held.length hc,.slice (some ⟨gf,0,none⟩) D.n cf,.int .i64 fv,.bool D.off,.int .i64 D.acts,.slice lA 0 lc]
 srow:Row w gs 41 (sgs.map sl)
 slen:sgs.length=D.n
 safe:∀ (i g:Nat),sgs[i]? = some g→Row w g 5 ((sec D.safe i).map B)
 hrow:w.ownsRow 0 133 2 (.slice hA D.held.length hc) D.held.length (hcells D.held hgs)
 hlen:hgs.length=D.held.length
 hdat:∀ (i g:Nat) (x:Nat×List UInt8),hgs[i]? = some g→D.held[i]? = some x→Row w g 5 (x.2.map B)
 faults:Row w gf 4 (D.faults.map Value.bool)
 lo: -1≤fv
 hi:fv<9223372036854775808
 fuse:D.off=false→fv=D.fuse
 cs1:D.n≤cs
 cf1:D.n≤cf
 lnil:lA=none→lc=0

def rfeet (r gs gf:Nat)(hA:Option Addr)(sgs hgs:List Nat):List Nat:=r::gs::gf::((hA.map Addr.block).toList++(sgs++hgs))
def RD (w:World)(F:List Nat)(r:Nat)(D:Dk):Prop:=D.ok∧∃ gs gf hA sgs hgs cs cf hc fv lA lc,RDat w r D gs gf hA sgs hgs cs cf hc fv lA lc∧F=rfeet r gs gf hA sgs hgs

section
variable {w w':World}{r gs gf cs cf hc lc:Nat}{D:Dk}{hA lA:Option Addr}{sgs hgs:List Nat}{fv:Int}{F:List Nat}
theorem getElem?_mem {l:List Nat}{i g:Nat}(h:l[i]? = some g):g∈l:=List.mem_of_getElem? h
theorem RDat.kept {S:List Nat}(h:RDat w r D gs gf hA sgs hgs cs cf hc fv lA lc)(k:Kept S w w')(hs:∀ x∈rfeet r gs gf hA sgs hgs,x∉S):RDat w' r D gs gf hA sgs hgs cs cf hc fv lA lc:=
 ⟨k.blk h.blk (hs _ (by simp [rfeet])),h.srow.kept k (hs _ (by simp [rfeet])),h.slen,fun i g hg=>(h.safe i g hg).kept k (hs _ (by have:=getElem?_mem hg;simp [rfeet,this])),
  own_kept h.hrow k (fun g hg=>hs _ (by simp [rfeet,hg])),h.hlen,fun i g x hg hx=>(h.hdat i g x hg hx).kept k (hs _ (by have:=getElem?_mem hg;simp [rfeet,this])),h.faults.kept k (hs _ (by simp [rfeet])),h.lo,h.hi,h.fuse,h.cs1,h.cf1,h.lnil⟩
theorem RD.kept {S:List Nat}(h:RD w F r D)(k:Kept S w w')(hs:∀ x∈F,x∉S):RD w' F r D:=by
 obtain⟨ho,gs,gf,hA,sgs,hgs,cs,cf,hc,fv,lA,lc,h,rfl⟩:=h;exact⟨ho,gs,gf,hA,sgs,hgs,cs,cf,hc,fv,lA,lc,h.kept k hs,rfl⟩
theorem own_lt {e:TypeId}{size n m c:Nat}{A:Option Addr}{xs:List Value}(h:w.ownsRow 0 e size (.slice A m c) n xs){g:Nat}(hg:A.map Addr.block=some g):g<w.heap.size∧∃ cur,Blk w g e cur:=by
 rcases h.2 with⟨h2,_⟩|⟨g',cap,cur,hv,hb,hh,r⟩
 ·injection h2 with h2;subst h2;cases hg
 ·injection hv with hv;subst hv;injection hg with hg;subst hg;exact⟨Blk.lt (show Blk w g' _ cur from hh),cur,hh⟩
theorem RD.lt (h:RD w F r D):∀ x∈F,x<w.heap.size:=by
 obtain⟨ho,gs,gf,hA,sgs,hgs,cs,cf,hc,fv,lA,lc,h,rfl⟩:=h;intro x hx;simp only[rfeet,List.mem_cons,List.mem_append]at hx
 rcases hx with rfl|rfl|rfl|hx|hx|hx
 ·exact h.blk.lt
 ·exact h.srow.lt
 ·exact h.faults.lt
 ·exact(own_lt h.hrow (by simpa using hx)).1
 ·obtain⟨i,hi,rfl⟩:=List.getElem_of_mem hx
  exact(h.safe i _ (List.getElem?_eq_getElem hi)).lt
 ·obtain⟨i,hi,rfl⟩:=List.getElem_of_mem hx
  exact(h.hdat i _ _ (List.getElem?_eq_getElem hi) (List.getElem?_eq_getElem (by have:=h.hlen;omega))).lt
theorem RD.mem (h:RD w F r D):r∈F:=by
 obtain⟨ho,gs,gf,hA,sgs,hgs,cs,cf,hc,fv,lA,lc,h,rfl⟩:=h
 simp [rfeet]
theorem RDat.restruct {D':Dk}{fv':Int}(h:RDat w r D gs gf hA sgs hgs cs cf hc fv lA lc)(k:Kept [r] w w')(e1:D'.safe=D.safe)(e2:D'.held=D.held)(e3:D'.faults=D.faults)
  (hb:Blk w' r 101 #[.slice (some ⟨gs,0,none⟩) D.n cs,.slice hA D.held.length hc,.slice (some ⟨gf,0,none⟩) D.n cf,.int .i64 fv',.bool D'.off,.int .i64 D'.acts,.slice lA 0 lc])
  (hl: -1≤fv') (hh:fv'<9223372036854775808) (hf:D'.off=false→fv'=D'.fuse):RDat w' r D' gs gf hA sgs hgs cs cf hc fv' lA lc:=by
 have en:D'.n=D.n:=by unfold Dk.n;rw[e3]
 have hne:∀ {g t vs},Row w g t vs→t≠101→g∉[r]:=fun {g t vs} hr ht hm=>by
  simp at hm;subst hm;exact Row.ne_ hr (Row.of_blk h.blk) ht rfl
 refine⟨by rw[en,e2];exact hb,h.srow.kept k (hne h.srow (by decide)),by rw[en];exact h.slen,fun i g hg=>by rw[e1];exact(h.safe i g hg).kept k (hne (h.safe i g hg) (by decide)),?_,by rw[e2];exact h.hlen,fun i g x hg hx=>by rw[e2]at hx;exact(h.hdat i g x hg hx).kept k (hne (h.hdat i g x hg hx) (by decide)),by rw[e3];exact h.faults.kept k (hne h.faults (by decide)),hl,hh,hf,by rw[en];exact h.cs1,by rw[en];exact h.cf1,h.lnil⟩;rw[e2];refine own_kept h.hrow k (fun g hg=> ?_);obtain⟨_,cur,hc⟩:=own_lt h.hrow hg;exact hne (Row.of_blk hc) (by decide)
end
def RTurned (w w':World)(F:List Nat)(r:Nat)(D':Dk):Prop:=∃ F',RD w' F' r D'∧(∀ x∈F',x∈F∨w.heap.size≤x)∧Kept F w w'
theorem RTurned.same {w:World}{F:List Nat}{r:Nat}{D:Dk}(h:RD w F r D):RTurned w w F r D:=⟨F,h,fun _ hx=> .inl hx,Kept.refl _ _⟩
theorem RTurned.of_kept {w w':World}{F S:List Nat}{r:Nat}{D:Dk}(h:RD w' F r D)(k:Kept S w w')(hs:∀ x∈S,x∈F):RTurned w w' F r D:=⟨F,h,fun _ hx=> .inl hx,k.mono (fun x hx=> .inl (hs x hx))⟩

theorem ract_at (r:Nat)(F:List Nat)(D:Dk)(w:World)(h:RD w F r D)(hb:D.acts<1000000):Calls Tryz.prog 141 #[.pointer (some ⟨r,0,none⟩)] w fun e w'=>e= .returned (.bool D.tick)∧RD w' F r D.ticked∧Kept [r] w w':=by
 obtain⟨ho,gs,gf,hA,sgs,hgs,cs,cf,hc,fv,lA,lc,h,hF⟩:=h;have HT:=hide (@ticked_same D);have HO:=hide ho.ticked;have h3:w.cell? ⟨r,3,none⟩=some (.int .i64 fv):=h.blk.cell 3;have h5:w.cell? ⟨r,5,none⟩=some (.int .i64 D.acts):=h.blk.cell 5;have h4:w.cell? ⟨r,4,none⟩=some (.bool D.off):=h.blk.cell 4;have f3:=h.blk.frozen 3;have f4:=h.blk.frozen 4;have f5:=h.blk.frozen 5;have hlo:=h.lo;have hhi:=h.hi;have H:=hide h;have HF:=hide hF;clear h hF ho
 have fin:∀ (fv':Int) (o':Bool) (w':World),Kept [r] w w'→Blk w' r 101 #[.slice (some ⟨gs,0,none⟩) D.n cs,.slice hA D.held.length hc,.slice (some ⟨gf,0,none⟩) D.n cf,.int .i64 fv',.bool o',.int .i64 ((D.acts:Int)+1),.slice lA 0 lc]→
   o'=D.ticked.off→ -1≤fv'→fv'<9223372036854775808→(D.ticked.off=false→fv'=D.ticked.fuse)→RD w' F r D.ticked∧Kept [r] w w':=by
  intro fv' o' w' hk hb ho' hl hh hf;subst ho';obtain⟨e1,e2,e3,e4⟩:=HT.out;exact⟨⟨HO.out,gs,gf,hA,sgs,hgs,cs,cf,hc,fv',lA,lc,H.out.restruct hk e1 e2 e3 (by rw[e4];exact hb) hl hh hf,HF.out⟩,hk⟩
 have HFin:=hide fin;clear fin;obtain⟨o,hoff⟩:∃ o,D.off=o:=⟨_,rfl⟩;rw[hoff]at h4;have E:=hide hoff;clear hoff;cases o
 ·have hfu:=H.out.fuse E.out
  rcases Int.lt_trichotomy fv 0 with hl|hl|hl
  ·have e1:Hid (D.tick=true):=hide (by unfold Dk.tick;rw[E.out,←hfu];simp;omega);have e2:Hid (D.ticked={D with acts:=D.acts+1,fuse:=if 0<D.fuse then D.fuse-1 else D.fuse}):=hide (by unfold Dk.ticked;rw[e1.out];rfl);have HFU:=hide hfu;clear hfu;go_enter Tryz.func141,Tryz.ntmps141;go_wp2;go_ret;refine⟨congrArg (fun q=>Ending.returned (.bool q)) e1.out.symm,HFin.out fv false _ ((Kept.refl _ _).set_ (.inl (by simp)) _ _) (by have:=H.out.blk.set_ 5 (.int .i64 ((D.acts:Int)+1));rw[E.out]at this;simpa using this) (by rw[e2.out];exact E.out.symm) hlo hhi ?_⟩;intro _;rw[e2.out]
   show fv=if 0<D.fuse then D.fuse-1 else D.fuse
   have:=HFU.out
   rw[if_neg (by omega)]
   omega
  ·subst hl;have e1:Hid (D.tick=false):=hide (by unfold Dk.tick;rw[←hfu];simp);have e2:Hid (D.ticked.off=true):=hide (by unfold Dk.ticked;rw[e1.out];rfl);clear hfu;go_enter Tryz.func141,Tryz.ntmps141;go_wp2;go_ret;refine⟨congrArg (fun q=>Ending.returned (.bool q)) e1.out.symm,HFin.out 0 true _ (((Kept.refl _ _).set_ (.inl (by simp)) _ _).set_ (.inl (by simp)) _ _) (by have:=(H.out.blk.set_ 5 (.int .i64 ((D.acts:Int)+1))).set_ 4 (.bool true);simpa using this) e2.out.symm hlo hhi ?_⟩;intro hq;rw[e2.out]at hq;cases hq
  ·have e1:Hid (D.tick=true):=hide (by unfold Dk.tick;rw[E.out,←hfu];simp;omega);have e2:Hid (D.ticked={D with acts:=D.acts+1,fuse:=if 0<D.fuse then D.fuse-1 else D.fuse}):=hide (by unfold Dk.ticked;rw[e1.out];rfl);have HFU:=hide hfu;clear hfu;go_enter Tryz.func141,Tryz.ntmps141;go_wp2;go_ret;refine⟨congrArg (fun q=>Ending.returned (.bool q)) e1.out.symm,HFin.out (fv-1) false _ (((Kept.refl _ _).set_ (.inl (by simp)) _ _).set_ (.inl (by simp)) _ _) (by have:=(H.out.blk.set_ 5 (.int .i64 ((D.acts:Int)+1))).set_ 3 (.int .i64 (fv-1));rw[E.out]at this;simpa using this) (by rw[e2.out];exact E.out.symm) (by omega) (by omega) ?_⟩;intro _;rw[e2.out]
   show fv-1=if 0<D.fuse then D.fuse-1 else D.fuse
   have:=HFU.out
   rw[if_pos (by omega)]
   omega
 ·have e1:Hid (D.tick=false):=hide (by unfold Dk.tick;rw[E.out];rfl);have e2:Hid (D.ticked.off=true):=hide (by unfold Dk.ticked;rw[e1.out];rfl);go_enter Tryz.func141,Tryz.ntmps141;go_wp2;go_ret;refine⟨congrArg (fun q=>Ending.returned (.bool q)) e1.out.symm,HFin.out fv true _ (((Kept.refl _ _).set_ (.inl (by simp)) _ _).set_ (.inl (by simp)) _ _) (by have:=(H.out.blk.set_ 5 (.int .i64 ((D.acts:Int)+1))).set_ 4 (.bool true);simpa using this) e2.out.symm hlo hhi ?_⟩;intro hq;rw[e2.out]at hq;cases hq

theorem within_has (D:Dk)(x:Int)(m:Int)(hm:m=(D.n:Int)-1)(w:World):
  Calls Tryz.prog 69 #[.int .i64 x,.int .i64 0,.int .i64 m] w fun e w'=>e= .returned (.bool (D.has x))∧w=w':=by
 refine(within_any x 0 m w).mono fun e w' ⟨he,hw⟩=>⟨by rw[he];congr 2;rw[hm];unfold Dk.has;rw[Bool.eq_iff_iff];simp;omega,hw⟩

theorem rfault_at (r:Nat)(F:List Nat)(D:Dk)(x:Int)(o:Bool)(w:World)(h:RD w F r D):Calls Tryz.prog 19 #[.pointer (some ⟨r,0,none⟩),.int .i64 x,.bool o] w fun e w'=>
  e= .returned (.int .i64 (D.faulted x o).1)∧RD w' F r (D.faulted x o).2∧Kept F w w':=by
 have H:=hide h;obtain⟨ho,gs,gf,hA,sgs,hgs,cs,cf,hc,fv,lA,lc,h,hF⟩:=h;have c0:w.cell? ⟨r,0,none⟩=some (.slice (some ⟨gs,0,none⟩) D.n cs):=h.blk.cell 0;have c2:w.cell? ⟨r,2,none⟩=some (.slice (some ⟨gf,0,none⟩) D.n cf):=h.blk.cell 2;have hn1:=ho.n1;have hn2:=ho.n2;have h0:=hide h;have HF:=hide hF;obtain⟨q,hq⟩:∃ q,D.has x=q:=⟨_,rfl⟩;cases q
 ·have e:D.faulted x o=(1,D):=by simp [Dk.faulted,hq]
  rw[e];have HQ:=hide hq;clear e hq h hF ho;go_enter Tryz.func19,Tryz.ntmps19;go_wp2_with fail;refine(within_has D x _ (by rfl) _).mono ?_;rintro e w' ⟨rfl,rfl⟩;rw[HQ.out];go_wp2;go_ret;exact⟨rfl,H.out,Kept.refl _ _⟩
 ·have e:D.faulted x o=(0,{D with faults:=D.faults.set x.toNat o}):=by simp [Dk.faulted,hq]
  rw[e];have HQ:=hide hq;obtain⟨i,rfl,hi⟩:=has_nat hq;rw[Int.toNat_natCast];have c1:=h.faults.cell (fault_cell D.faults i hi);have f1:=h.faults.frozen i;have HO:=hide (ho.faulted i o);clear e hq h hF ho;go_enter Tryz.func19,Tryz.ntmps19;go_wp2_with fail;refine(within_has D i _ (by rfl) _).mono ?_;rintro e w' ⟨rfl,rfl⟩;rw[HQ.out];go_wp2;go_ret;have hv:=h0.out;have k:Kept [gf] w (w.setCell ⟨gf,i,none⟩ (.bool o)):=(Kept.refl _ _).set_ (.inl (by simp)) _ _
  have hne:∀ {g t vs},Row w g t vs→t≠4→g∉[gf]:=fun {g t vs} hr ht hm=>by
   simp at hm;subst hm;exact Row.ne_ hr hv.faults ht rfl
  have en:Dk.n {D with faults:=D.faults.set i o}=D.n:=by simp [Dk.n]
  refine⟨rfl,⟨HO.out,gs,gf,hA,sgs,hgs,cs,cf,hc,fv,lA,lc,⟨?_,hv.srow.kept k (hne hv.srow (by decide)),by rw[en];exact hv.slen,fun j g hg=>(hv.safe j g hg).kept k (hne (hv.safe j g hg) (by decide)),own_kept hv.hrow k (fun g hg=> ?_),hv.hlen,fun j g y hg hy=>(hv.hdat j g y hg hy).kept k (hne (hv.hdat j g y hg hy) (by decide)),?_,hv.lo,hv.hi,hv.fuse,by rw[en];exact hv.cs1,by rw[en];exact hv.cf1,hv.lnil⟩,HF.out⟩,k.mono (fun j hj=> .inl (by rw[HF.out];simp at hj;simp [rfeet,hj]))⟩
  ·rw[en];exact k.blk hv.blk (hne (Row.of_blk hv.blk) (by decide))
  ·obtain⟨_,cur,hcur⟩:=own_lt hv.hrow hg;exact hne (Row.of_blk hcur) (by decide)
  ·have:=hv.faults.set_ i (.bool o)
   rw[←List.map_set]at this;exact this
end Go.Proofs.YtjkmahmoclobmaaGreat.disk
namespace Go.Proofs.YtjkmahmoclobmaaGreat.disk
open Go.RowKit mem base
theorem Arr.row {w:World}{b cap:Nat}{bs:List UInt8}(h:Arr w b cap bs):Row w b 5 (bs.map B):=by
 obtain⟨cs,h,hz,hl,r⟩:=h;refine⟨cs,h,by rw[List.length_map];omega,fun i v hv=> ?_⟩;rw[List.getElem?_map]at hv;obtain⟨x,hx,rfl⟩:=Option.map_eq_some_iff.1 hv;exact r i x hx
theorem part64o (A:Option Addr)(c:Nat)(bs:List UInt8)(w:World)(hv:Vals w [] A (bs.map B))(hl:bs.length=64)(hc:64≤c):
  Calls Tryz.prog 72 #[.slice A 64 c,.int .i64 0,.int .i64 64] w fun e w'=>∃ g,e= .returned (sl g)∧w.heap.size≤g∧Arr w' g 64 bs∧Kept [] w w':=by
 refine(part_any A 64 c 0 64 bs w hv hl hc (by omega) (by omega) (by omega) (by omega)).mono fun e w' ⟨g,he,hg,ha,hk⟩=>⟨g,he,hg,?_,hk⟩
 have e2:(bs.drop (0:Int).toNat).take ((64:Int)-0).toNat=bs:=by
  show(bs.drop 0).take 64=bs
  rw[List.drop_zero,List.take_of_length_le (by omega)]
 rw[e2]at ha;exact ha
theorem part64 (A:Option Addr)(c:Nat)(bs:List UInt8)(w:World)(hv:Vals w [] A (bs.map B))(hl:bs.length=64)(hc:64≤c):
  Calls Tryz.prog 72 #[.slice A 64 c,.int .i64 0,.int .i64 64] w fun e w'=>∃ g,e= .returned (sl g)∧w.heap.size≤g∧Row w' g 5 (bs.map B)∧Kept [] w w':=
 (part64o A c bs w hv hl hc).mono fun _ _ ⟨g,he,hg,ha,hk⟩=>⟨g,he,hg,Arr.row ha,hk⟩

theorem lastOf_take (i:Nat)(c:List UInt8)(l:List (Nat×List UInt8))(k:Nat)(hk:k<l.length):lastOf i c (l.take (k+1))=if l[k].1=i then l[k].2 else lastOf i c (l.take k):=by
 unfold lastOf;rw[List.take_add_one,List.getElem?_eq_getElem hk,Option.toList_some,List.foldl_append]
 rfl

theorem rread_own (r:Nat)(F:List Nat)(D:Dk)(x:Int)(w:World)(h:RD w F r D)(hb:D.acts≤1000000):Calls Tryz.prog 16 #[.pointer (some ⟨r,0,none⟩),.int .i64 x] w fun e w'=>
  AnswersO w w' e (D.read x)∧Kept [] w w':=by
 obtain⟨ho,gs,gf,hA,sgs,hgs,cs,cf,hc,fv,lA,lc,h,hF⟩:=h;have c0:w.cell? ⟨r,0,none⟩=some (.slice (some ⟨gs,0,none⟩) D.n cs):=h.blk.cell 0;have c1:w.cell? ⟨r,1,none⟩=some (.slice hA D.held.length hc):=h.blk.cell 1;have c2:w.cell? ⟨r,2,none⟩=some (.slice (some ⟨gf,0,none⟩) D.n cf):=h.blk.cell 2;have c4:w.cell? ⟨r,4,none⟩=some (.bool D.off):=h.blk.cell 4;have hn1:=ho.n1;have hn2:=ho.n2
 have hfew:D.held.length≤1000000:=by have:=ho.few;omega
 have H:=hide h;have HO:=hide ho;obtain⟨q,hq⟩:∃ q,D.has x=q:=⟨_,rfl⟩;cases q
 ·have e:D.read x=(1,[]):=by simp [Dk.read,hq]
  rw[e];have HQ:=hide hq;clear e hq h ho hF;go_enter Tryz.func16,Tryz.ntmps16;go_wp2_with fail;refine(within_has D x _ (by rfl) _).mono ?_;rintro e w' ⟨rfl,rfl⟩;rw[HQ.out];go_wp2;go_ret2;exact⟨⟨none,0,rfl,Fresh.none _ _,World.ownsRow_nil _ _ _ _⟩,Kept.refl _ _⟩
 ·have HQ:=hide hq;obtain⟨i,rfl,hi⟩:=has_nat hq;have d1:=h.faults.cell (fault_cell D.faults i hi);obtain⟨o,hoff⟩:∃ o,D.off=o:=⟨_,rfl⟩;obtain⟨f,hflt⟩:∃ f,D.faults.getD i false=f:=⟨_,rfl⟩;rw[hoff]at c4;rw[hflt]at d1
  have e:D.read i=(if o=true then(3,[])else if f=true then(4,[])else(0,sec D.now i)):=by unfold Dk.read;rw[hq,hoff,Int.toNat_natCast,hflt];rfl
  rw[e];clear e hq hoff hflt h ho hF;cases o
  ·cases f
   ·rw[if_neg (by simp),if_neg (by simp)]
    have hsl:i<sgs.length:=by rw[H.out.slen];exact hi
    obtain⟨g0,hg0⟩:∃ g0,sgs[i]? = some g0:=⟨_,List.getElem?_eq_getElem hsl⟩;have d0:w.cell? ⟨gs,i,none⟩=some (sl g0):=H.out.srow.cell (by rw[List.getElem?_map,hg0];rfl);unfold sl at d0;have R0:Hid (Row w g0 5 ((lastOf i (sec D.safe i) (D.held.take 0)).map B)):=hide (H.out.safe i g0 hg0);have HE:Hid (sec D.now i=lastOf i (sec D.safe i) D.held):=hide (sec_layH D.n i D.held D.safe HO.out.safe HO.out.held);have HSN:Hid ((sec D.now i).length=64):=hide (sec_length D.now i D.n HO.out.now hi);clear hg0 hsl;go_enter Tryz.func16,Tryz.ntmps16;go_wp2_with fail;refine(within_has D i _ (by rfl) _).mono ?_;rintro e w' ⟨rfl,rfl⟩;rw[HQ.out];go_wp2
    go_loop [6,7] (fun b j=>∃ k g:Nat,k≤D.held.length∧j= .int .i64 k∧b= .slice (some ⟨g,0,none⟩) 64 64∧Hid (Row w g 5 ((lastOf i (sec D.safe i) (D.held.take k)).map B))) (fun b j=>D.held.length-(intOf j).toNat)
    case atStart=>exact⟨0,g0,Nat.zero_le _,rfl,rfl,R0⟩
    case round=>
     obtain⟨k,g,hk,rfl,rfl,HR⟩:=hrel
     by_cases hlt:k<D.held.length
     ·obtain⟨gh,rfl,hrow,hcl⟩:=own_addr H.out.hrow (by omega);obtain⟨⟨a,bs⟩,hx⟩:∃ x:Nat×List UInt8,D.held[k]=x:=⟨_,rfl⟩
      have hxs:D.held[k]? = some (a,bs):=by rw[List.getElem?_eq_getElem hlt,hx]
      obtain⟨g1,hg1⟩:∃ g1,hgs[k]? = some g1:=⟨_,List.getElem?_eq_getElem (by rw[H.out.hlen];exact hlt)⟩;obtain⟨m1,m2⟩:=hcells_at _ _ H.out.hlen k _ _ hxs hg1;have e1:=hrow.cell m1;have e2:=hrow.cell m2;have HLT:Hid (lastOf i (sec D.safe i) (D.held.take (k+1))=if a=i then bs else lastOf i (sec D.safe i) (D.held.take k)):=hide (by rw[lastOf_take _ _ _ _ hlt,hx]);have R1:Hid (Row w g1 5 (bs.map B)):=hide (H.out.hdat k g1 _ hg1 hxs);unfold I at e1;unfold sl at e2;clear hrow hx hxs hg1 m1 m2
      by_cases hai:a=i
      ·subst hai;go_wp2;exact⟨⟨k+1,g1,by omega,by go_num,rfl,hide (by rw[HLT.out,if_pos rfl];exact R1.out)⟩,by simp [intOf];omega⟩
      ·have hai':((a:Int)==(i:Int))=false:=beq_eq_false_iff_ne.2 (by omega);have HAI:=hide hai;clear hai;go_wp2;exact⟨⟨k+1,g,by omega,by go_num,rfl,hide (by rw[HLT.out,if_neg HAI.out];exact HR.out)⟩,by simp [intOf];omega⟩
     ·obtain rfl:k=D.held.length:=by omega
      have HR2:Hid (Row w g 5 ((sec D.now i).map B)):=hide (by have:=HR.out;rw[List.take_of_length_le (Nat.le_refl _),←HE.out]at this;exact this);go_wp2_with fail;refine(part64o _ 64 (sec D.now i) _ (HR2.out.vals0 (by simp)) HSN.out (by omega)).mono ?_;rintro e w1 ⟨g2,rfl,hg2,hr2,hk2⟩;have HR3:=hide hr2;have HK3:=hide hk2;clear hr2 hk2;unfold sl;go_wp2;go_ret2;exact⟨⟨some ⟨g2,0,none⟩,64,ret_err HSN.out.symm,by rw[HSN.out];exact⟨Row.fresh (Arr.row HR3.out) hg2 HSN.out (by omega),own_of_arr HR3.out HSN.out hg2 (by omega)⟩⟩,HK3.out⟩
   ·rw[if_neg (by simp),if_pos rfl];go_enter Tryz.func16,Tryz.ntmps16;go_wp2_with fail;refine(within_has D i _ (by rfl) _).mono ?_;rintro e w' ⟨rfl,rfl⟩;rw[HQ.out];go_wp2;go_ret2;exact⟨⟨none,0,rfl,Fresh.none _ _,World.ownsRow_nil _ _ _ _⟩,Kept.refl _ _⟩
  ·rw[if_pos rfl];go_enter Tryz.func16,Tryz.ntmps16;go_wp2_with fail;refine(within_has D i _ (by rfl) _).mono ?_;rintro e w' ⟨rfl,rfl⟩;rw[HQ.out];go_wp2;go_ret2;exact⟨⟨none,0,rfl,Fresh.none _ _,World.ownsRow_nil _ _ _ _⟩,Kept.refl _ _⟩
structure Out (w0 w:World)(r gs gf n cs cf:Nat)(lA:Option Addr)(lc:Nat)(sgs:List Nat)(S:List UInt8)(fl:List Bool):Prop where
 blk:Blk w r 101 #[.slice (some ⟨gs,0,none⟩) n cs,.slice none 0 0,.slice (some ⟨gf,0,none⟩) n cf,.int .i64 (-1),.bool false,.int .i64 0,.slice lA 0 lc]
 srow:Row w gs 41 (sgs.map sl)
 slen:sgs.length=n
 dup:sgs.Nodup
 safe:∀ (i g:Nat),sgs[i]? = some g→Row w g 5 ((sec S i).map B)
 faults:Row w gf 4 (fl.map Value.bool)
 slz:S.length=64*n
 flz:fl.length=n
 new:∀ x∈r::gs::gf::sgs,w0.heap.size≤x
 cs1:n≤cs
 cf1:n≤cf
 lnil:lA=none→lc=0

theorem rd_of_out {w0 w:World}{r gs gf n cs cf lc:Nat}{lA:Option Addr}{sgs:List Nat}{S:List UInt8}{fl:List Bool}(h:Out w0 w r gs gf n cs cf lA lc sgs S fl)(h1:1≤n)(h2:n≤4096):∃ F,RD w F r ⟨S,[],fl,-1,0,false⟩∧∀ x∈F,w0.heap.size≤x:=by
 have hn:Dk.n ⟨S,[],fl,-1,0,false⟩=n:=h.flz;refine⟨_,⟨⟨by rw[hn];exact h1,by rw[hn];exact h2,by rw[hn];exact h.slz,by simp,by simp,by simp⟩,gs,gf,none,sgs,[],cs,cf,0,-1,lA,lc,⟨by rw[hn];exact h.blk,h.srow,by rw[hn];exact h.slen,h.safe,⟨by simp [hcells],.inl ⟨rfl,rfl⟩⟩,rfl,fun i g x hg=>by simp at hg,h.faults,by omega,by omega,fun _=>rfl,by rw[hn];exact h.cs1,by rw[hn];exact h.cf1,h.lnil⟩,rfl⟩,?_⟩;intro x hx;refine h.new x ?_
 simp [rfeet]at hx
 simp
 exact hx
end Go.Proofs.YtjkmahmoclobmaaGreat.disk
namespace Go.Proofs.YtjkmahmoclobmaaGreat.disk
open Go.RowKit mem base
theorem slice_info:(Tryz.prog.info? 41).map (fun i=>(i.zero,i.size,i.bytes))=some (some (.slice none 0 0),1,24):=by kernel_rfl
theorem oneCell_sl (g:Nat):∀ u∈[sl g],u.oneCell'=true:=by
 intro u hu;simp only[List.mem_cons,List.not_mem_nil,or_false]at hu;subst hu
 rfl
structure Grow (w0 w:World)(r gf n:Nat)(v:Value)(k:Nat)(sgs:List Nat):Prop where
 blk:Blk w r 101 #[v,.slice none 0 0,.slice (some ⟨gf,0,none⟩) n n,.int .i64 (-1),.bool false,.int .i64 0,.slice none 0 0]
 own:w.ownsRow 0 41 1 v k (sgs.map sl)
 ogn:∀ g,v.ownBlock=some g→w0.heap.size≤g
 dup:sgs.Nodup
 safe:∀ g∈sgs,Row w g 5 ((List.replicate 64 (0:UInt8)).map B)
 faults:Row w gf 4 ((List.replicate n false).map Value.bool)
 new:∀ x∈r::gf::sgs,w0.heap.size≤x
 kept:Kept [] w0 w

theorem grow_step {w0 w w5:World}{r gf n k:Nat}{v v1:Value}{sgs:List Nat}(h:Grow w0 w r gf n v k sgs)(Z:Array Value)(hZ:Row (w.alloc (.cells Z 5)) w.heap.size 5 ((List.replicate 64 (0:UInt8)).map B))
  (hown:w5.ownsRow 0 41 1 v1 (k+1) (sgs.map sl++[sl w.heap.size])) (hk:Kept v.ownBlock.toList (((w.alloc (.cells Z 5)).alloc (.cells #[sl w.heap.size] 41)).drew) w5) (hat:v1.ownBlock=v.ownBlock∨v1.ownBlock=some (w.heap.size+2)):
  (w5.cell? ⟨r,0,none⟩=some v∧w5.frozen? ⟨r,0,none⟩=false)∧Grow w0 (w5.setCell ⟨r,0,none⟩ v1) r gf n v1 (k+1) (sgs++[w.heap.size]):=by
 have hs:=h.kept.size;have k1:Kept [] w (((w.alloc (.cells Z 5)).alloc (.cells #[sl w.heap.size] 41)).drew):=(((Kept.refl [] w).alloc _).alloc _).drew
 have hty:∀ {g t vs},Row w g t vs→t≠41→g∉v.ownBlock.toList:=fun {g t vs} hr ht hm=>by
  rcases h.own.2 with⟨h2,_⟩|⟨g',cap,cur,hv,hb,hh,r⟩
  ·rw[h2]at hm;simp [Value.ownBlock]at hm
  ·rw[hv]at hm
   simp [Value.ownBlock]at hm
   subst hm;exact Row.ne_ hr (Row.of_blk (show Blk w _ 41 cur from hh)) ht rfl
 have hrb:=Row.of_blk h.blk;have b5:=hk.blk (k1.blk h.blk (by simp)) (hty hrb (by decide))
 have hgn:w.heap.size∉v.ownBlock.toList:=fun hm=>by
  rcases h.own.2 with⟨h2,_⟩|⟨g',cap,cur,hv,hb,hh,r⟩
  ·rw[h2]at hm;simp [Value.ownBlock]at hm
  ·rw[hv]at hm
   simp [Value.ownBlock]at hm
   have:=Blk.lt (show Blk w g' 41 cur from hh)
   omega
 have z5:Row w5 w.heap.size 5 ((List.replicate 64 (0:UInt8)).map B):=((hZ.alloc _).drew).kept hk hgn;have k6:Kept [r] w5 (w5.setCell ⟨r,0,none⟩ v1):=(Kept.refl _ _).set_ (.inl (by simp)) _ _;have hrl:r<w.heap.size:=h.blk.lt;have hlt:∀ g∈sgs,g<w.heap.size:=fun g hg=>(h.safe g hg).lt
 have hog:∀ g,v1.ownBlock=some g→w0.heap.size≤g:=fun g hg=>by
  rcases hat with hat|hat
  ·rw[hat]at hg;exact h.ogn g hg
  ·rw[hat]at hg;injection hg with hg
   omega
 refine⟨⟨b5.cell 0,b5.frozen 0⟩,⟨by have:=b5.set_ 0 v1;simpa using this,?_,hog,?_,?_,?_,?_,?_⟩⟩
 ·rw[List.map_append]
  rcases hown.2 with⟨_,h2⟩|⟨g',cap,cur,hv,hb,hh,hrest⟩
  ·omega
  ·refine⟨hown.1,.inr ⟨g',cap,cur,hv,hb,?_,hrest⟩⟩;have hb5:Blk w5 g' 41 cur:=hh;exact hb5.far_ (Row.ne_ (Row.of_blk hb5) (Row.of_blk b5) (by decide)) _ _
 ·rw[List.nodup_append];exact⟨h.dup,by simp,fun a ha b hb=>by simp at hb;have:=hlt a ha;omega⟩
 ·intro g hg
  rcases List.mem_append.1 hg with hg|hg
  ·have r5:=((h.safe g hg).kept k1 (by simp)).kept hk (hty (h.safe g hg) (by decide));exact r5.kept k6 (by simp;have:=Row.ne_ r5 (Row.of_blk b5) (by decide);exact this)
  ·simp at hg;subst hg;exact z5.kept k6 (by simp;omega)
 ·have r5:=(h.faults.kept k1 (by simp)).kept hk (hty h.faults (by decide));exact r5.kept k6 (by simp;exact Row.ne_ r5 (Row.of_blk b5) (by decide))
 ·intro x hx;simp only[List.mem_cons,List.mem_append,List.not_mem_nil,or_false]at hx
  rcases hx with rfl|rfl|hx|rfl
  ·exact h.new _ (by simp)
  ·exact h.new _ (by simp)
  ·exact h.new _ (by simp [hx])
  ·exact hs
 ·refine((h.kept.trans k1 (by simp)).trans hk (fun x hx=> .inr ?_)).trans k6 (fun x hx=> .inr ?_)
  ·exact h.ogn x (by simpa using hx)
  ·simp at hx;subst hx;exact h.new _ (by simp)

theorem sec_zeros (n i:Nat)(hi:i<n):sec (List.replicate (64*n) (0:UInt8)) i=List.replicate 64 0:=by
 unfold sec;rw[List.drop_replicate,List.take_replicate]
 congr 1
 omega

theorem rnew_ok (x:Int)(n:Nat)(hx:x=n)(w:World)(h1:1≤n)(h2:n≤4096):Calls Tryz.prog 127 #[.int .i64 x] w fun e w'=>
  ∃ r gs gf cs sgs,e= .returned (.pointer (some ⟨r,0,none⟩))∧Out w w' r gs gf n cs n none 0 sgs (List.replicate (64*n) 0) (List.replicate n false)∧Kept [] w w':=by
 subst hx;have hb:=make_bools n h2;have rb:=row_bools n;generalize madeCells #[Value.bool false] n=Y at hb rb
 have hmk:∀ w:World,(Instr.makeSlice 41 (.int .i64 64) (.int .i64 64)).run Tryz.prog w= .ok (.slice (some ⟨w.heap.size,0,none⟩) 64 64) (w.alloc (.cells (madeCells #[.int .u8 0] 64) 5)):=
  run_make_row' (P:=Tryz.prog) 41 5 (.int .u8 0) 1 (by kernel_rfl) (by kernel_rfl) rfl .i64 .i64 64 (by omega) (by omega)
 have hz:∀ w:World,Row (w.alloc (.cells (madeCells #[.int .u8 0] 64) 5)) w.heap.size 5 ((List.replicate 64 (0:UInt8)).map B):=fun w=>⟨_,Blk.new _ _ _,by rw[size_madeCells];simp,fun i v hv=>by
  rw[List.map_replicate,List.getElem?_replicate]at hv
  split at hv
  ·rename_i hi
   rw[made_B 64 i hi];exact hv
  ·cases hv⟩
 generalize madeCells #[Value.int .u8 0] 64=Z at hmk hz;have HZ:=hide hz;have RB:=hide rb;clear hz rb
 have hn1:(1:Int)≤n:=by omega
 have hn2:(n:Int)≤4096:=by omega
 have G0:Hid (Grow w ((w.alloc (.cells Y 4)).alloc (.cells #[.slice none 0 0,.slice none 0 0,.slice (some ⟨w.heap.size,0,none⟩) n n,.int .i64 (-1),.bool false,.int .i64 0,.slice none 0 0] 101)) (w.heap.size+1) w.heap.size n (.slice none 0 0) 0 []):=hide
  ⟨by have:=Blk.new (w.alloc (.cells Y 4)) 101 #[.slice none 0 0,.slice none 0 0,.slice (some ⟨w.heap.size,0,none⟩) n n,.int .i64 (-1),.bool false,.int .i64 0,.slice none 0 0];simpa using this,
   ⟨rfl,.inl ⟨rfl,rfl⟩⟩,by simp [Value.ownBlock],by simp,by simp,(RB.out w).alloc _,by simp,((Kept.refl [] w).alloc _).alloc _⟩
 go_enter Tryz.func127,Tryz.ntmps127;go_wp2_with fail;refine(within_yes _ 1 4096 _ (by omega)).mono ?_;rintro e w' ⟨rfl,rfl⟩;go_wp2
 go_loopw [4] (fun i wr=>∃ (k:Nat) (v:Value) (sgs:List Nat),k≤n∧i= .int .i64 k∧Hid (Grow w wr (w.heap.size+1) w.heap.size n v k sgs)) (fun i wr=>n-(intOf i).toNat)
 case atStart=>exact⟨0,_,_,Nat.zero_le _,rfl,G0⟩
 case round=>
  obtain⟨k,v,sgs,hk,rfl,HG⟩:=hrel;generalize w.heap.size+1=r at*
  by_cases hlt:k<n
  ·have c0:wr.cell? ⟨r,0,none⟩=some v:=HG.out.blk.cell 0;have hrl:=HG.out.blk.lt;have c0a:(wr.alloc (.cells Z 5)).cell? ⟨r,0,none⟩=some v:=(HG.out.blk.alloc _).cell 0;have O3:Hid ((((wr.alloc (.cells Z 5)).alloc (.cells #[sl wr.heap.size] 41)).drew).ownsRow 0 41 1 v k (sgs.map sl)):=hide (((HG.out.own.alloc _).alloc _))
   have V3:Hid (Vals (((wr.alloc (.cells Z 5)).alloc (.cells #[sl wr.heap.size] 41)).drew) [] (some ⟨wr.heap.size+1,0,none⟩) [sl wr.heap.size]):=hide (by
    have:=(Row.of_blk (Blk.new (wr.alloc (.cells Z 5)) 41 #[sl wr.heap.size])).drew.vals0 (S:=[]) (by simp)
    simpa using this)
   clear G0;unfold sl at O3 V3;go_wp2
   go_region_law (first
    | (refine step_append_vals rfl (.tmp 21) (.tmp 23) 97 rfl 0 41 (.slice none 0 0) 1 24 Tryz.underlying97 slice_info rfl (by omega) v k (sgs.map sl) rfl O3.out [] _ 1 1 [sl wr.heap.size] rfl rfl V3.out (oneCell_sl _) (by simp only[maxLen];omega) (by omega) (Nat.zero_le _) ?_;intro v1 w5 hown1 hk1 hat1;obtain⟨g1,c1,cur1,rfl,_,_⟩:=own_some hown1 (by omega);have HST:=hide (grow_step HG.out Z (HZ.out wr) hown1 hk1 (by simpa using hat1));obtain⟨⟨c05,f05⟩,_⟩:=HST.out;clear hown1 hk1 hat1))
   all_goals
    have HN:=hide HST.out.2;clear HST c05 f05;go_wp2;exact⟨⟨k+1,_,_,by omega,by go_num,HN⟩,by simp [intOf];omega⟩
  ·obtain rfl:k=n:=by omega
   clear G0;go_wp2;go_ret;have hg:=HG.out;obtain⟨g1,c1,cur1,rfl,hc1,_⟩:=own_some hg.own (by omega);obtain⟨g2,hg2,hrow,_⟩:=own_addr hg.own (by omega);injection hg2 with hg2;injection hg2 with hg2;subst hg2
   have hsl:sgs.length=k:=by have:=hg.own.1;simpa using this
   refine⟨_,g1,_,c1,sgs,rfl,⟨hg.blk,hrow,hsl,hg.dup,fun i g hi=> ?_,hg.faults,by simp,by simp,?_,hc1,Nat.le_refl _,fun _=>rfl⟩,hg.kept⟩
   ·rw[sec_zeros k i (by rw[←hsl];exact(List.getElem?_eq_some_iff.1 hi).1)];exact hg.safe g (getElem?_mem hi)
   ·intro y hy;simp only[List.mem_cons]at hy
    rcases hy with rfl|rfl|rfl|hy
    ·exact hg.new _ (by simp)
    ·exact hg.ogn _ rfl
    ·exact hg.new _ (by simp)
    ·exact hg.new _ (by simp [hy])
end Go.Proofs.YtjkmahmoclobmaaGreat.disk
namespace Go.Proofs.YtjkmahmoclobmaaGreat.disk
open Go.RowKit mem base
theorem rwrite_bad (r:Nat)(F:List Nat)(D:Dk)(x:Int)(A:Option Addr)(n c:Nat)(w:World)(h:RD w F r D)(hx:D.has x=false∨n≠64):
  Calls Tryz.prog 74 #[.pointer (some ⟨r,0,none⟩),.int .i64 x,.slice A n c] w fun e w'=>e= .returned (.int .i64 1)∧w=w':=by
 obtain⟨ho,gs,gf,hA,sgs,hgs,cs,cf,hc,fv,lA,lc,h,hF⟩:=h;have c0:w.cell? ⟨r,0,none⟩=some (.slice (some ⟨gs,0,none⟩) D.n cs):=h.blk.cell 0;have hn1:=ho.n1;have hn2:=ho.n2;clear h hF ho;obtain⟨q,hq⟩:∃ q,D.has x=q:=⟨_,rfl⟩;have HQ:=hide hq;rw[hq]at hx;clear hq;cases q
 ·clear hx;go_enter Tryz.func74,Tryz.ntmps74;go_wp2_with fail;refine(within_has D x _ (by rfl) _).mono ?_;rintro e w' ⟨rfl,rfl⟩;rw[HQ.out];go_wp2;go_ret;exact⟨rfl,rfl⟩
 ·have hn:(n:Int)≠64:=by
   rcases hx with hx|hx
   ·cases hx
   ·omega
  clear hx;go_enter Tryz.func74,Tryz.ntmps74;go_wp2_with fail;refine(within_has D x _ (by rfl) _).mono ?_;rintro e w' ⟨rfl,rfl⟩;rw[HQ.out];go_wp2;go_ret;exact⟨rfl,rfl⟩

theorem rwrite_off (r:Nat)(F:List Nat)(D:Dk)(x:Int)(A:Option Addr)(c:Nat)(w:World)(h:RD w F r D)(hb:D.acts<1000000)(hx:D.has x=true)(ht:D.tick=false):
  Calls Tryz.prog 74 #[.pointer (some ⟨r,0,none⟩),.int .i64 x,.slice A 64 c] w fun e w'=>e= .returned (.int .i64 3)∧RTurned w w' F r D.ticked:=by
 have H:=hide h;have HM:=hide h.mem;obtain⟨ho,gs,gf,hA,sgs,hgs,cs,cf,hc,fv,lA,lc,h,hF⟩:=h;have c0:w.cell? ⟨r,0,none⟩=some (.slice (some ⟨gs,0,none⟩) D.n cs):=h.blk.cell 0;have hn1:=ho.n1;have hn2:=ho.n2;have HQ:=hide hx;have HT:=hide ht;clear h hF ho hx ht;go_enter Tryz.func74,Tryz.ntmps74;go_wp2_with fail;refine(within_has D x _ (by rfl) _).mono ?_;rintro e w' ⟨rfl,rfl⟩;rw[HQ.out];go_wp2_with fail;refine(ract_at r F D _ H.out hb).mono ?_;rintro e w1 ⟨rfl,hd,hk⟩;rw[HT.out];go_wp2;go_ret;exact⟨rfl,RTurned.of_kept hd hk (fun z hz=>by simp at hz;subst hz;exact HM.out)⟩

theorem held_info:(Tryz.prog.info? 133).map (fun i=>(i.zero,i.size,i.bytes))=some (some (.agg #[.int .i64 0,.slice none 0 0]),2,32):=by kernel_rfl
theorem oneCell_held (a:Int)(g:Nat):∀ u∈[Value.int .i64 a,sl g],u.oneCell'=true:=by
 intro u hu;simp only[List.mem_cons,List.not_mem_nil,or_false]at hu
 rcases hu with rfl|rfl<;>rfl
theorem rwrote_at {w w1 w2 w4:World}{r gs gf cs cf hc lc i g g4 c4:Nat}{T:Dk}{hA lA:Option Addr}{sgs hgs:List Nat}{fv:Int}{F:List Nat}{bs:List UInt8}(hD:RDat w1 r T gs gf hA sgs hgs cs cf hc fv lA lc)(hF:F=rfeet r gs gf hA sgs hgs)
  (k1:Kept [r] w w1) (k2:Kept [] w1 w2) (hg:w1.heap.size≤g) (hr:Row w2 g 5 (bs.map B))
  (k4:Kept (Value.slice hA T.held.length hc).ownBlock.toList ((w2.alloc (.cells #[.int .i64 (i:Int),sl g] 133))) w4)
  (hown:w4.ownsRow 0 133 2 (.slice (some ⟨g4,0,none⟩) (T.held.length+1) c4) (T.held.length+1) (hcells T.held hgs++[.int .i64 (i:Int),sl g]))
  (hat:(Value.slice (some ⟨g4,0,none⟩) (T.held.length+1) c4).ownBlock=(Value.slice hA T.held.length hc).ownBlock∨(Value.slice (some ⟨g4,0,none⟩) (T.held.length+1) c4).ownBlock=some (w2.heap.size+1))
  (hok:Dk.ok {T with held:=T.held++[(i,bs)]}):
  (w4.cell? ⟨r,1,none⟩=some (.slice hA T.held.length hc)∧w4.frozen? ⟨r,1,none⟩=false)∧RTurned w (w4.setCell ⟨r,1,none⟩ (.slice (some ⟨g4,0,none⟩) (T.held.length+1) c4)) F r {T with held:=T.held++[(i,bs)]}:=by
 have d2:=hD.kept (k2.alloc (.cells #[.int .i64 (i:Int),sl g] 133)) (by simp)
 have hty:∀ {y t vs},Row (w2.alloc (.cells #[.int .i64 (i:Int),sl g] 133)) y t vs→t≠133→y∉(Value.slice hA T.held.length hc).ownBlock.toList:=fun {y t vs} hy ht hm=>by
  cases hA with
  | none=>simp [Value.ownBlock]at hm
  | some ad=>
   simp [Value.ownBlock]at hm
   obtain⟨_,cur,hcur⟩:=own_lt d2.hrow (g:=ad.block) rfl;rw[←hm]at hcur;exact Row.ne_ hy (Row.of_blk hcur) ht rfl
 have b4:=k4.blk d2.blk (hty (Row.of_blk d2.blk) (by decide));have k5:Kept [r] w4 (w4.setCell ⟨r,1,none⟩ (.slice (some ⟨g4,0,none⟩) (T.held.length+1) c4)):=(Kept.refl _ _).set_ (.inl (by simp)) _ _
 have all:∀ {y t vs},Row (w2.alloc (.cells #[.int .i64 (i:Int),sl g] 133)) y t vs→t≠133→t≠101→Row (w4.setCell ⟨r,1,none⟩ (.slice (some ⟨g4,0,none⟩) (T.held.length+1) c4)) y t vs:=fun {y t vs} hy ht ht2=>by
  have h4:=hy.kept k4 (hty hy ht);exact h4.kept k5 (by simp;exact Row.ne_ h4 (Row.of_blk b4) ht2)
 have hgr:=all (hr.alloc (.cells #[.int .i64 (i:Int),sl g] 133)) (by decide) (by decide);have hs1:=k1.size;have hs2:=k2.size;have hfr:∀ x∈[r],x∈F∨w.heap.size≤x:=fun x hx=> .inl (by rw[hF];simp at hx;simp [rfeet,hx]);refine⟨⟨b4.cell 1,b4.frozen 1⟩,rfeet r gs gf (some ⟨g4,0,none⟩) sgs (hgs++[g]),⟨hok,gs,gf,some ⟨g4,0,none⟩,sgs,hgs++[g],cs,cf,c4,fv,lA,lc,⟨?_,all d2.srow (by decide) (by decide),hD.slen,fun j y hy=>all (d2.safe j y hy) (by decide) (by decide),?_,?_,?_,all d2.faults (by decide) (by decide),hD.lo,hD.hi,hD.fuse,hD.cs1,hD.cf1,hD.lnil⟩,rfl⟩,?_,?_⟩
 ·have:=b4.set_ 1 (.slice (some ⟨g4,0,none⟩) (T.held.length+1) c4)
  show Blk _ _ _ #[_,.slice _ (T.held++[(i,bs)]).length _,_,_,_,_,_];rw[List.length_append,List.length_singleton]
  have h3:Blk (w4.setCell ⟨r,1,none⟩ (.slice (some ⟨g4,0,none⟩) (T.held.length+1) c4)) r 101 #[.slice (some ⟨gs,0,none⟩) T.n cs,.slice (some ⟨g4,0,none⟩) (T.held.length+1) c4,.slice (some ⟨gf,0,none⟩) T.n cf,.int .i64 fv,.bool T.off,.int .i64 T.acts,.slice lA 0 lc]:=by simpa using this
  exact h3
 ·show World.ownsRow _ 0 _ 2 (.slice _ (T.held++[(i,bs)]).length _) (T.held++[(i,bs)]).length (hcells (T.held++[(i,bs)]) (hgs++[g]));rw[List.length_append,List.length_singleton,hcells_snoc _ _ hD.hlen];refine own_kept hown k5 (fun z hz=> ?_);obtain⟨_,cur,hcur⟩:=own_lt hown hz
  simp
  exact Row.ne_ (Row.of_blk hcur) (Row.of_blk b4) (by decide)
 ·rw[List.length_append,List.length_singleton,hD.hlen];show _=(T.held++[(i,bs)]).length;rw[List.length_append]
  rfl
 ·intro j y x hy hx
  rcases Nat.lt_or_ge j hgs.length with hj|hj
  ·rw[List.getElem?_append_left hj]at hy;have hx':(T.held++[(i,bs)])[j]? = some x:=hx;rw[List.getElem?_append_left (by rw[←hD.hlen];exact hj)]at hx';exact all (d2.hdat j y x hy hx') (by decide) (by decide)
  ·have hj0:j=hgs.length:=by
    have:=(List.getElem?_eq_some_iff.1 hy).1
    simp at this
    omega
   subst hj0;have hx':(T.held++[(i,bs)])[hgs.length]? = some x:=hx;rw[hD.hlen,List.getElem?_append_right (Nat.le_refl _),Nat.sub_self]at hx';rw[List.getElem?_append_right (Nat.le_refl _),Nat.sub_self]at hy;simp at hx' hy;subst hx' hy;exact hgr
 ·intro x hx;simp only[rfeet,List.mem_cons,List.mem_append,Option.map_some,Option.toList_some,List.not_mem_nil,or_false]at hx
  rcases hx with rfl|rfl|rfl|rfl|hx|hx|rfl
  ·exact .inl (by rw[hF];simp [rfeet])
  ·exact .inl (by rw[hF];simp [rfeet])
  ·exact .inl (by rw[hF];simp [rfeet])
  ·rcases hat with hat|hat
   ·cases hA with
    | none=>simp [Value.ownBlock]at hat
    | some ad=>
     simp [Value.ownBlock]at hat
     exact .inl (by rw[hF];simp [rfeet,hat])
   ·simp [Value.ownBlock]at hat
    exact .inr (by omega)
  ·exact .inl (by rw[hF];simp [rfeet,hx])
  ·exact .inl (by rw[hF];simp [rfeet,hx])
  ·exact .inr (by omega)
 ·refine(((k1.mono hfr).trans (k2.alloc _) (by simp)).trans k4 (fun x hx=> .inl ?_)).trans k5 hfr;rw[hF]
  cases hA with
  | none=>simp [Value.ownBlock]at hx
  | some ad=>
   simp [Value.ownBlock]at hx
   simp [rfeet,hx]

theorem rwrite_ok (r:Nat)(F:List Nat)(D:Dk)(x:Int)(A:Option Addr)(c:Nat)(bs:List UInt8)(w:World)(h:RD w F r D)(hb:D.acts<1000000)(hv:Vals w F A (bs.map B))(hl:bs.length=64)(hc64:64≤c)(hx:D.has x=true)(ht:D.tick=true):
  Calls Tryz.prog 74 #[.pointer (some ⟨r,0,none⟩),.int .i64 x,.slice A 64 c] w fun e w'=>e= .returned (.int .i64 0)∧RTurned w w' F r {D.ticked with held:=D.ticked.held++[(x.toNat,bs)]}:=by
 have H:=hide h;have HM:=hide h.mem;obtain⟨i,rfl,hi⟩:=has_nat hx;rw[Int.toNat_natCast]
 have HOK:Hid (Dk.ok {D.ticked with held:=D.ticked.held++[(i,bs)]}):=hide (by
  have h1:=h.1.wrote (at_:=i) hx hl;rw[Int.toNat_natCast]at h1;rw[ticked_same.2.1]
  exact h1)
 have c0:∃ gs cs,w.cell? ⟨r,0,none⟩=some (.slice (some ⟨gs,0,none⟩) D.n cs):=by
  obtain⟨ho,gs,gf,hA,sgs,hgs,cs,cf,hc,fv,lA,lc,h,hF⟩:=h;exact⟨gs,cs,h.blk.cell 0⟩
 obtain⟨gs0,cs0,c0⟩:=c0;have hn1:=h.1.n1;have hn2:=h.1.n2;have HQ:=hide hx;have HT:=hide ht;have HV:=hide hv;have HL:=hide hl;clear h hx ht hv hl;go_enter Tryz.func74,Tryz.ntmps74;go_wp2_with fail;refine(within_has D i _ (by rfl) _).mono ?_;rintro e w' ⟨rfl,rfl⟩;rw[HQ.out];go_wp2_with fail;refine(ract_at r F D _ H.out hb).mono ?_;rintro e w1 ⟨rfl,hd,hk⟩;rw[HT.out];have HLT:=hide hd.lt;obtain⟨ho,gs,gf,hA,sgs,hgs,cs,cf,hc,fv,lA,lc,h,hF⟩:=hd
 have hfew:D.ticked.held.length≤1000001:=by
  have h1:=ho.few;have h2:=(@ticked_same D).2.2.2
  omega
 have c1:w1.cell? ⟨r,1,none⟩=some (.slice hA D.ticked.held.length hc):=h.blk.cell 1;have HD:=hide h;have HF:=hide hF;have HK:=hide hk;have HV1:=hide ((HV.out.kept hk (fun z hz=>by simp at hz;subst hz;exact HM.out)).mono (S':=[]) (by simp));clear h hF hk ho c0;go_wp2
 go_region_law (first
  | (have K2b:=K2.out;refine step_append_vals rfl (.tmp 28) (.tmp 35) 98 rfl 0 133 (.agg #[.int .i64 0,.slice none 0 0]) 2 32 Tryz.underlying98 held_info rfl (by omega) (.slice hA D.ticked.held.length hc) D.ticked.held.length (hcells D.ticked.held hgs) rfl (own_kept HD.out.hrow (K2.out.alloc _) (by simp)) [] _ 1 1 [.int .i64 (i:Int),sl g2] rfl rfl V2.out (oneCell_held _ _) (by simp only[maxLen];omega) (by omega) (Nat.zero_le _) ?_;intro v1 w5 hown1 hk1 hat1;obtain⟨g1,cc1,cur1,rfl,_,_⟩:=own_some hown1 (by omega);have HST:=hide (rwrote_at HD.out HF.out HK.out K2.out G2.out R2.out hk1 hown1 (by simpa using hat1) HOK.out);obtain⟨⟨c15,f15⟩,_⟩:=HST.out;clear hown1 hk1 hat1)
  | (go_simp;go_at_call 72;refine(part64 A c bs _ (show Vals w1.drew [] A (bs.map B)from HV1.out) HL.out hc64).mono ?_;rintro e w2 ⟨g2,rfl,hg2,hr2,hk2⟩;have K2:=hide (((Kept.refl [] w1).drew).trans hk2 (by simp));have R2:=hide hr2;have G2:=hide (show w1.heap.size≤g2 from hg2);have V2:Hid (Vals (w2.alloc (.cells #[.int .i64 (i:Int),sl g2] 133)) [] (some ⟨w2.heap.size,0,none⟩) [.int .i64 (i:Int),sl g2]):=hide ((Row.of_blk (Blk.new w2 133 #[.int .i64 (i:Int),sl g2])).vals0 (S:=[]) (by simp));have c12:=hk2.cell (p:=⟨r,1,none⟩) (show World.cell? _ _=_ from c1) (by simp);have hrl2:r<w2.heap.size:=block_lt_of_cell c12;unfold sl;clear hr2 hk2 hg2))
 all_goals
  have HN:=hide HST.out.2;clear HST c15 f15;go_wp2;go_ret;exact⟨rfl,HN.out⟩

theorem rwrite_at (r:Nat)(F:List Nat)(D:Dk)(x:Int)(A:Option Addr)(n c:Nat)(bs:List UInt8)(w:World)(h:RD w F r D)(hb:D.acts<1000000)(hv:Vals w F A (bs.map B))(hl:bs.length=n)(hc:n≤c):
  Calls Tryz.prog 74 #[.pointer (some ⟨r,0,none⟩),.int .i64 x,.slice A n c] w fun e w'=>e= .returned (.int .i64 (D.write x bs).1)∧RTurned w w' F r (D.write x bs).2:=by
 by_cases hx:D.has x=false∨n≠64
 ·have e1:D.write x bs=(1,D):=by
   unfold Dk.write;rw[if_neg];intro hc;simp at hc
   rcases hx with hx|hx
   ·rw[hx]at hc;exact absurd hc.1 (by simp)
   ·exact hx (by omega)
  rw[e1]
  exact(rwrite_bad r F D x A n c w h hx).mono fun e w' ⟨he,hw⟩=>⟨he,by subst hw;exact RTurned.same h⟩
 ·have hx1:D.has x=true:=by
   cases hq:D.has x
   ·exact absurd (.inl hq) hx
   ·rfl
  have hn:n=64:=by
   rcases Nat.decEq n 64 with h|h
   ·exact absurd (.inr h) hx
   ·exact h
  subst hn
  have hcc:(D.has x&&bs.length==64)=true:=by rw[hx1,hl];rfl
  cases ht:D.tick
  ·have e1:D.write x bs=(3,D.ticked):=by
    unfold Dk.write;rw[if_pos hcc,ht]
    rfl
   rw[e1];exact rwrite_off r F D x A c w h hb hx1 ht
  ·have e1:D.write x bs=(0,{D.ticked with held:=D.ticked.held++[(x.toNat,bs)]}):=by
    unfold Dk.write;rw[if_pos hcc,ht,ticked_same.2.1]
    rfl
   rw[e1];exact rwrite_ok r F D x A c bs w h hb hv hl hc hx1 ht
end Go.Proofs.YtjkmahmoclobmaaGreat.disk
namespace Go.Proofs.YtjkmahmoclobmaaGreat.disk
open Go.RowKit mem base
theorem rflush_off (r:Nat)(F:List Nat)(D:Dk)(w:World)(h:RD w F r D)(hb:D.acts<1000000)(ht:D.tick=false):
  Calls Tryz.prog 76 #[.pointer (some ⟨r,0,none⟩)] w fun e w'=>e= .returned (.int .i64 3)∧RTurned w w' F r D.ticked:=by
 have H:=hide h;have HT:=hide ht;have HM:=hide h.mem;clear h ht;go_enter Tryz.func76,Tryz.ntmps76;go_wp2_with fail;refine(ract_at r F D _ H.out hb).mono ?_;rintro e w1 ⟨rfl,hd,hk⟩;rw[HT.out];go_wp2;go_ret;exact⟨rfl,RTurned.of_kept hd hk (fun z hz=>by simp at hz;subst hz;exact HM.out)⟩
structure RHalf (w:World)(r:Nat)(T:Dk)(gs gf:Nat)(hA:Option Addr)(hgs:List Nat)(cs cf hc:Nat)(fv:Int)(lA:Option Addr)(lc k:Nat)(sgs:List Nat):Prop where
 blk:Blk w r 101 #[.slice (some ⟨gs,0,none⟩) T.n cs,.slice hA T.held.length hc,.slice (some ⟨gf,0,none⟩) T.n cf,.int .i64 fv,.bool T.off,.int .i64 T.acts,.slice lA 0 lc]
 srow:Row w gs 41 (sgs.map sl)
 slen:sgs.length=T.n
 safe:∀ (i g:Nat),sgs[i]? = some g→Row w g 5 ((sec (layH T.safe (T.held.take k)) i).map B)
 hrow:w.ownsRow 0 133 2 (.slice hA T.held.length hc) T.held.length (hcells T.held hgs)
 hlen:hgs.length=T.held.length
 hdat:∀ (i g:Nat) (x:Nat×List UInt8),hgs[i]? = some g→T.held[i]? = some x→Row w g 5 (x.2.map B)
 faults:Row w gf 4 (T.faults.map Value.bool)

theorem rhalf_step {w:World}{r gs gf cs cf hc lc k a g1:Nat}{T:Dk}{hA lA:Option Addr}{sgs hgs:List Nat}{fv:Int}{bs:List UInt8}(ho:T.ok)(h:RHalf w r T gs gf hA hgs cs cf hc fv lA lc k sgs)(hk:k<T.held.length)(hx:T.held[k]=(a,bs))(hg1:hgs[k]? = some g1):
  RHalf (w.drew.setCell ⟨gs,a,none⟩ (sl g1)) r T gs gf hA hgs cs cf hc fv lA lc (k+1) (sgs.set a g1)∧Kept [gs] w (w.drew.setCell ⟨gs,a,none⟩ (sl g1)):=by
 have k5:Kept [gs] w (w.drew.setCell ⟨gs,a,none⟩ (sl g1)):=((Kept.refl [gs] w).drew).set_ (.inl (by simp)) _ _;have hm:=ho.held _ (List.getElem_mem hk);rw[hx]at hm;have hSl:(layH T.safe (T.held.take k)).length=64*T.n:=layH_length _ _ _ ho.safe (fun x hx=>ho.held x (List.mem_of_mem_take hx))
 have hne:∀ {y t vs},Row w y t vs→t≠41→y∉[gs]:=fun {y t vs} hy ht hmm=>by
  simp at hmm;subst hmm;exact Row.ne_ hy h.srow ht rfl
 refine⟨⟨k5.blk h.blk (hne (Row.of_blk h.blk) (by decide)),?_,by simpa using h.slen,?_,own_kept h.hrow k5 (fun g hg=> ?_),h.hlen,fun j y x hy hx=>(h.hdat j y x hy hx).kept k5 (hne (h.hdat j y x hy hx) (by decide)),h.faults.kept k5 (hne h.faults (by decide))⟩,k5⟩
 ·have:=h.srow.drew.set_ a (sl g1)
  rw[←List.map_set]at this;exact this
 ·intro j y hy;rw[List.getElem?_set]at hy;rw[layH_take _ _ _ hk,hx]
  split at hy
  ·rename_i e
   subst e
   split at hy
   ·injection hy with hy;subst hy;rw[sec_one T.n a _ bs hSl hm.1 hm.2]
    have:=h.hdat k g1 (a,bs) hg1 (by rw[List.getElem?_eq_getElem hk,hx])
    exact this.kept k5 (hne this (by decide))
   ·cases hy
  ·rename_i e
   rw[sec_lay_other _ a j T.n _ hSl hm.1 (by rw[hm.2];exact Nat.le_refl _) e]
   have:=h.safe j y hy
   exact this.kept k5 (hne this (by decide))
 ·obtain⟨_,cur,hcur⟩:=own_lt h.hrow hg;exact hne (Row.of_blk hcur) (by decide)

theorem rhalf_end {w w1 w2:World}{r gs gf cs cf hc lc k:Nat}{T:Dk}{hA lA:Option Addr}{sgs0 sgs hgs:List Nat}{fv:Int}{F:List Nat}(hD:RDat w1 r T gs gf hA sgs0 hgs cs cf hc fv lA lc)(hF:F=rfeet r gs gf hA sgs0 hgs)(h:RHalf w2 r T gs gf hA hgs cs cf hc fv lA lc k sgs)(hk:k=T.held.length)(hsub:∀ g∈sgs,g∈F)
  (k1:Kept [r] w w1) (k2:Kept [gs] w1 w2) (hok:Dk.ok {T with safe:=T.now,held:=[]}):RTurned w (w2.setCell ⟨r,1,none⟩ (.slice none 0 0)) F r {T with safe:=T.now,held:=[]}:=by
 have k3:Kept [r] w2 (w2.setCell ⟨r,1,none⟩ (.slice none 0 0)):=(Kept.refl _ _).set_ (.inl (by simp)) _ _
 have hne:∀ {y t vs},Row w2 y t vs→t≠101→y∉[r]:=fun {y t vs} hy ht hmm=>by
  simp at hmm;subst hmm;exact Row.ne_ hy (Row.of_blk h.blk) ht rfl
 refine⟨rfeet r gs gf none sgs [],⟨hok,gs,gf,none,sgs,[],cs,cf,0,fv,lA,lc,⟨?_,h.srow.kept k3 (hne h.srow (by decide)),h.slen,?_,⟨by simp [hcells],.inl ⟨rfl,rfl⟩⟩,rfl,fun j y x hy=>by simp at hy,h.faults.kept k3 (hne h.faults (by decide)),hD.lo,hD.hi,hD.fuse,hD.cs1,hD.cf1,hD.lnil⟩,rfl⟩,?_,?_⟩
 ·have:=h.blk.set_ 1 (.slice none 0 0)
  have h3:Blk (w2.setCell ⟨r,1,none⟩ (.slice none 0 0)) r 101 #[.slice (some ⟨gs,0,none⟩) T.n cs,.slice none 0 0,.slice (some ⟨gf,0,none⟩) T.n cf,.int .i64 fv,.bool T.off,.int .i64 T.acts,.slice lA 0 lc]:=by simpa using this
  exact h3
 ·intro j y hy;have h4:=h.safe j y hy;have h5:=h4.kept k3 (hne h4 (by decide));rw[hk,List.take_of_length_le (Nat.le_refl _)]at h5;exact h5
 ·intro x hx;refine .inl ?_;simp only[rfeet,Option.map_none,Option.toList_none,List.nil_append,List.append_nil,List.mem_cons]at hx
  rcases hx with rfl|rfl|rfl|hx
  ·rw[hF];simp [rfeet]
  ·rw[hF];simp [rfeet]
  ·rw[hF];simp [rfeet]
  ·exact hsub x hx
 ·have kf:∀ x∈[r],x∈F∨w.heap.size≤x:=fun x hx=> .inl (by rw[hF];simp at hx;simp [rfeet,hx])
  exact((k1.mono kf).trans k2 (fun x hx=> .inl (by rw[hF];simp at hx;simp [rfeet,hx]))).trans k3 kf

theorem rflush_ok (r:Nat)(F:List Nat)(D:Dk)(w:World)(h:RD w F r D)(hb:D.acts<1000000)(ht:D.tick=true):
  Calls Tryz.prog 76 #[.pointer (some ⟨r,0,none⟩)] w fun e w'=>e= .returned (.int .i64 0)∧RTurned w w' F r {D.ticked with safe:=D.ticked.now,held:=[]}:=by
 have H:=hide h;have HT:=hide ht
 have HOK:Hid (Dk.ok {D.ticked with safe:=D.ticked.now,held:=[]}):=hide (by
  have h1:=h.1.flushed
  have e:D.ticked.now=D.now:=by unfold Dk.now;rw[ticked_same.1,ticked_same.2.1]
  rw[e]
  exact h1)
 clear h ht;go_enter Tryz.func76,Tryz.ntmps76;go_wp2_with fail;refine(ract_at r F D _ H.out hb).mono ?_;rintro e w1 ⟨rfl,hd,hk⟩;rw[HT.out];obtain⟨ho,gs,gf,hA,sgs0,hgs,cs,cf,hc,fv,lA,lc,hD,hF⟩:=hd
 have hfew:D.ticked.held.length≤1000001:=by
  have h1:=ho.few;have h2:=(@ticked_same D).2.2.2
  omega
 have HD:=hide hD;have HO:=hide ho;have HF:=hide hF;have HK:=hide hk;have H0:Hid (RHalf w1 r D.ticked gs gf hA hgs cs cf hc fv lA lc 0 sgs0):=hide ⟨hD.blk,hD.srow,hD.slen,hD.safe,hD.hrow,hD.hlen,hD.hdat,hD.faults⟩;have HS0:Hid (∀ g∈sgs0,g∈F):=hide (fun g hg=>by rw[hF];simp [rfeet,hg]);have HHG:Hid (∀ g∈hgs,g∈F):=hide (fun g hg=>by rw[hF];simp [rfeet,hg]);clear hD ho hF hk hb;generalize hT:D.ticked=T at*;have HTT:=hide hT;clear hT;go_wp2
 go_loopw [3] (fun i wr=>∃ (k:Nat) (sgs:List Nat),k≤T.held.length∧i= .int .i64 k∧Hid (RHalf wr r T gs gf hA hgs cs cf hc fv lA lc k sgs)∧Hid (∀ g∈sgs,g∈F)∧Hid (Kept [gs] w1 wr)) (fun i wr=>T.held.length-(intOf i).toNat)
 case atStart=>exact⟨0,sgs0,Nat.zero_le _,rfl,H0,HS0,hide (Kept.refl _ _)⟩
 case round=>
  obtain⟨k,sgs,hk,rfl,HH,HS,HKR⟩:=hrel;have c0:wr.cell? ⟨r,0,none⟩=some (.slice (some ⟨gs,0,none⟩) T.n cs):=HH.out.blk.cell 0;have c1:wr.cell? ⟨r,1,none⟩=some (.slice hA T.held.length hc):=HH.out.blk.cell 1
  by_cases hlt:k<T.held.length
  ·obtain⟨gh,rfl,hrow,hcl⟩:=own_addr HH.out.hrow (by omega);have hm:=HO.out.held _ (List.getElem_mem hlt);obtain⟨⟨a,bs⟩,hx⟩:∃ x:Nat×List UInt8,T.held[k]=x:=⟨_,rfl⟩;rw[hx]at hm
   have hxs:T.held[k]? = some (a,bs):=by rw[List.getElem?_eq_getElem hlt,hx]
   obtain⟨g1,hg1⟩:∃ g1,hgs[k]? = some g1:=⟨_,List.getElem?_eq_getElem (by rw[HH.out.hlen];exact hlt)⟩;obtain⟨m1,m2⟩:=hcells_at _ _ HH.out.hlen k _ _ hxs hg1;have e1:=hrow.cell m1;have e2:=hrow.cell m2;unfold I at e1;unfold sl at e2
   have ga1:(0:Int)≤a:=by omega
   have ga2:(a:Int)<T.n:=by have:a<T.n:=hm.1;omega
   obtain⟨ga,hga⟩:∃ ga,sgs[a]? = some ga:=⟨_,List.getElem?_eq_getElem (by rw[HH.out.slen];exact hm.1)⟩;have d0:wr.cell? ⟨gs,a,none⟩=some (sl ga):=HH.out.srow.cell (by rw[List.getElem?_map,hga];rfl);have f0:=HH.out.srow.frozen a;unfold sl at d0;have HST:=hide (rhalf_step HO.out HH.out hlt hx hg1)
   have HGM:Hid (∀ g∈sgs.set a g1,g∈F):=hide (fun g hg=>by
    rcases List.mem_or_eq_of_mem_set hg with h1|h1
    ·exact HS.out g h1
    ·rw[h1];exact HHG.out _ (getElem?_mem hg1))
   clear hrow hm hx hxs hg1 m1 m2 hga H0;go_wp2
   go_still_tail 21,(by kernel_rfl)
   change wpList _ _ _ _ _ (World.drew wr);go_wp2;exact⟨⟨k+1,sgs.set a g1,by omega,by go_num,hide HST.out.1,HGM,hide (HKR.out.trans HST.out.2 (fun x hx=> .inl hx))⟩,by simp [intOf];omega⟩
  ·obtain rfl:k=T.held.length:=by omega
   have f1:=HH.out.blk.frozen 1;have HE:=hide (rhalf_end HD.out HF.out HH.out rfl HS.out HK.out HKR.out HOK.out);clear H0;go_wp2;go_ret;exact⟨rfl,by rw[HTT.out];exact HE.out⟩

theorem rflush_at (r:Nat)(F:List Nat)(D:Dk)(w:World)(h:RD w F r D)(hb:D.acts<1000000):
  Calls Tryz.prog 76 #[.pointer (some ⟨r,0,none⟩)] w fun e w'=>e= .returned (.int .i64 D.flush.1)∧RTurned w w' F r D.flush.2:=by
 cases ht:D.tick
 ·have e1:D.flush=(3,D.ticked):=by unfold Dk.flush;rw[ht];rfl
  rw[e1];exact rflush_off r F D w h hb ht
 ·have e:D.ticked.now=D.now:=by unfold Dk.now;rw[ticked_same.1,ticked_same.2.1]
  have e1:D.flush=(0,{D.ticked with safe:=D.ticked.now,held:=[]}):=by unfold Dk.flush;rw[ht,e];rfl
  rw[e1];exact rflush_ok r F D w h hb ht
end Go.Proofs.YtjkmahmoclobmaaGreat.disk
namespace Go.Proofs.YtjkmahmoclobmaaGreat.disk
open Go.RowKit mem base
end Go.Proofs.YtjkmahmoclobmaaGreat.disk
namespace Go.Proofs.YtjkmahmoclobmaaGreat.disk
open Go.RowKit mem base
structure Pr (w0 w:World)(F:List Nat)(p:Nat)(D:Dk)(G:List Nat)(r:Nat)(E:Dk):Prop where
 a:Mine w0 w F p D
 b:RD w G r E
 new:∀ x∈G,w0.heap.size≤x
 sep:∀ x∈F,x∉G

theorem two_at (x:Int)(n:Nat)(hx:x=n)(w:World)(h1:1≤n)(h2:n≤4096):Calls Tryz.prog 63 #[.int .i64 x] w fun e w'=>
  ∃ F p G r,e= .returned (.tuple #[.pointer (some ⟨p,0,none⟩),.pointer (some ⟨r,0,none⟩),.bool true])∧Pr w w' F p (Dk.new n) G r (Dk.new n):=by
 subst hx;go_enter Tryz.func63,Tryz.ntmps63;go_wp2_with fail;refine(mine_new (n:Int) n w _ rfl (Kept.refl _ _) h1 h2).mono ?_;rintro e w1 ⟨F,p,rfl,hm⟩;have HM:=hide hm;clear hm;go_wp2_with fail;refine(rnew_ok (n:Int) n rfl _ h1 h2).mono ?_;rintro e w2 ⟨r,gs,gf,cs,sgs,rfl,hout,hk⟩
 have HP:Hid (∃ G,Pr w w2 F p (Dk.new n) G r (Dk.new n)):=hide (by
  obtain⟨G,hrd,hG⟩:=rd_of_out hout h1 h2;have hs:=HM.out.2.2.size
  exact⟨G,HM.out.kept hk,hrd,fun x hx=>by have:=hG x hx;omega,fun x hx hm=>by have:=HM.out.1.lt x hx;have:=hG x hm;omega⟩)
 clear hout hk HM;go_wp2;go_ret3;obtain⟨G,hp⟩:=HP.out;exact⟨F,p,G,r,rfl,hp⟩
end Go.Proofs.YtjkmahmoclobmaaGreat.disk
namespace Go.Proofs.YtjkmahmoclobmaaGreat.disk
open Go.RowKit mem base
end Go.Proofs.YtjkmahmoclobmaaGreat.disk
