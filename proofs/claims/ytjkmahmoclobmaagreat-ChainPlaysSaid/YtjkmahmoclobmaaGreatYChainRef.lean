import Derived.Test.YtjkmahmoclobmaaGreatYScanRScan
import Derived.Test.YtjkmahmoclobmaaGreatYScanRef
import Derived.Test.YtjkmahmoclobmaaGreatYScanSame
import Derived.Test.YtjkmahmoclobmaaGreatYChainMany
namespace Go.Proofs.YtjkmahmoclobmaaGreat.sc
set_option linter.unusedSimpArgs false
set_option linter.unusedVariables false
open Go.RowKit mem base disk owns
open record (Rc RcIn RcAt put5 put5_kept cell5)
open item (It Items)
theorem FndX.append {w:World}{S:List Nat}:∀ {l m:List (Ps×Rc)} {xs ys:List Value},FndX w S l xs→FndX w S m ys→FndX w S (l++m) (xs++ys)
 | [],_,_,_,h,g=>by cases h;exact g
 | (_,_)::_,_,_,_,⟨L,m,c,P,n,d,rest,h1,h2,h3⟩,g=>by
  subst h1;exact⟨L,m,c,P,n,d,_,rfl,h2,h3.append g⟩
theorem FndX.one {w:World}{S:List Nat}:∀ {l:List (Ps×Rc)} {xs:List Value},FndX w S l xs→xs.length=l.length*10∧∀ u∈xs,u.oneCell'=true
 | [],_,h=>by cases h;exact⟨rfl,by simp⟩
 | (_,_)::_,_,⟨L,m,c,P,n,d,rest,h1,h2,h3⟩=>by
  obtain⟨g1,g2⟩:=h3.one;subst h1;refine⟨by simp [g1];omega,fun u hu=> ?_⟩;simp only[List.mem_cons]at hu
  rcases hu with rfl|rfl|rfl|rfl|rfl|rfl|rfl|rfl|rfl|rfl|hu
  all_goals first|exact g2 u hu|simp [Value.oneCell']
theorem FndX.last {w:World}{S:List Nat}{A:Option Addr}{pre:List (Ps×Rc)}{pk:Ps}{R:Rc}{xs:List Value}(hv:Vals w S A xs)(h:FndX w S (pre++[(pk,R)]) xs):∃ ad L m c P k d,A=some ad∧RcIn w S L m P k R∧w.cell? ⟨(ad.add (pre.length*10)).block,(ad.add (pre.length*10)).off+5,none⟩=some (.int .i64 R.m)∧w.cell? ⟨(ad.add (pre.length*10)).block,(ad.add (pre.length*10)).off+6,none⟩=some (.int .i64 R.l)∧w.cell? ⟨(ad.add (pre.length*10)).block,(ad.add (pre.length*10)).off+7,none⟩=some (.int .i64 R.p)∧w.cell? ⟨(ad.add (pre.length*10)).block,(ad.add (pre.length*10)).off+8,none⟩=some (.slice L m c)∧w.cell? ⟨(ad.add (pre.length*10)).block,(ad.add (pre.length*10)).off+9,none⟩=some (.slice P k d):=by
 obtain⟨L,m,c,P,k,d,h1,_,h5,h6,h7,h8,h9⟩:=h.at_ (j:=pre.length) (pk:=pk) (R:=R) (by simp);obtain⟨ad,rfl,_⟩:=vals_at hv h5
 have key:∀ (i:Nat) (v:Value),xs[i]? = some v→w.cell? (ad.add i)=some v:=fun i v hi=>by
  obtain⟨ad',e,g⟩:=vals_at hv hi;cases e;exact g
 exact⟨ad,L,m,c,P,k,d,rfl,h1,add_cell (key _ _ h5),add_cell (key _ _ h6),add_cell (key _ _ h7),add_cell (key _ _ h8),add_cell (key _ _ h9)⟩
theorem nextVal_find:∀ (l:List It),nextVal l=match l.find? (fun i=>decide (i.k=7))with|none=> -1|some i=>i.v
 | []=>rfl
 | i::l=>by
  unfold nextVal
  by_cases h:i.k=7
  ·rw[if_pos h,List.find?_cons_of_pos (by simpa using h)]
  ·rw[if_neg h,List.find?_cons_of_neg (by simpa using h)];exact nextVal_find l
theorem stand_step {D:Dk}(hD:D.ok){a z s:Int}{p at_ E1:Ps}{L1:List (Ps×Rc)}{on:Bool}{err1:Int}(hst:Stand D a z s p L1 at_ on)(h:scanOf D a z p false=(L1,E1,err1)):
  (L1=[]∧on=false)∨∃ pre pk R,L1=pre++[(pk,R)]∧R.ok∧((on=false∧(nextVal R.its<0∨s≤nextVal R.its))∨(on=true∧err1=0∧(0≤nextVal R.its∧nextVal R.its<s)∧at_=⟨nextVal R.its,0,E1.l,E1.v,E1.m⟩)):=by
 cases hst with
 | nil=>exact .inl ⟨rfl,rfl⟩
 | snoc pre pk R sm hf=>
  obtain⟨sm2,h1,h2,h3⟩:=scan_end h rfl;rw[hf]at h1;injection h1 with h1 _;injection h1 with h1;injection h1 with _ h1;subst h1;have hok:=(follow_ok hD hf).1;refine .inr ⟨pre,pk,R,rfl,hok,?_⟩;have hnv:=nextVal_find R.its;have hms:=nextVal_may R.its hok.2.2.2.2.1
  rcases hni:nextItem R with _|i
  ·have e1:stepOn s (behind pk R sm) R=(behind pk R sm,false):=by unfold stepOn;rw[hni]
   unfold nextItem at hni;rw[hni]at hnv;dsimp only at hnv;rw[e1];exact .inl ⟨rfl,.inl (by omega)⟩
  ·have hh:=nextItem_some hni;have hnn:hasNext R=true:=hh.1;have h33:=h3 hnn;unfold hasNext at hnn;rw[hnn]at hms;have h0:=of_decide_eq_true hms
   by_cases hs:s≤i.v
   ·have e1:stepOn s (behind pk R sm) R=(behind pk R sm,false):=by unfold stepOn;rw[hni];dsimp only;rw[if_pos hs]
    unfold nextItem at hni;rw[hni]at hnv;dsimp only at hnv;rw[e1];exact .inl ⟨rfl,.inr (by omega)⟩
   ·have e1:stepOn s (behind pk R sm) R=(⟨i.v,0,(behind pk R sm).l,(behind pk R sm).v,(behind pk R sm).m⟩,true):=by unfold stepOn;rw[hni];dsimp only;rw[if_neg hs]
    unfold nextItem at hni;rw[hni]at hnv;dsimp only at hnv;rw[e1,h2];exact .inr ⟨rfl,h33,⟨h0,by omega⟩,by rw[hnv]⟩
theorem logs_told {D:Dk}{s l r q:Int}{p:Ps}{L:List (Ps×Rc)}{E:Ps}{err:Int}(h:Logs D s l r q p L E err):∀ y∈L,∃ sm,follow D (ofSeg none s l r q y.1.s).2.1 (ofSeg none s l r q y.1.s).2.2 y.1=(some (y.2,sm),0):=by
 induction h with
 | last p L E err at_ h hs=>exact seg_told h
 | more p L E err at_ L2 E2 err2 h hs h2 ih=>
  intro y hy
  rcases List.mem_append.1 hy with hy|hy
  ·exact seg_told h y hy
  ·exact ih y hy
theorem logs_le {D:Dk}(hD:D.ok){N:Nat}(hM:Mk D N){s l r q:Int}{p:Ps}{L:List (Ps×Rc)}{E:Ps}{err:Int}(h:Logs D s l r q p L E err):L.length≤N:=by
 obtain⟨M,h1,h2⟩:=hM;have hn:=(h.nums hD).2;have ht:=logs_told h;refine Nat.le_trans (inj_le L.length (fun i=>match L[i]? with|some y=>(toldAt s l r q y).toNat|none=>0) M (fun i hi=> ?_) (fun i j hi hj he=> ?_)) h1
 ·obtain⟨y,hy⟩:∃ y,L[i]? = some y:=⟨_,List.getElem?_eq_getElem hi⟩;rw[hy];dsimp only;obtain⟨sm,hf⟩:=ht y (List.mem_of_getElem? hy);obtain⟨f1,f2,_⟩:=follow_at2 hf;obtain⟨g1,g2,g3⟩:=read_now f1;rw[g1]at f2;exact h2 _ g3 f2
 ·obtain⟨y,hy⟩:∃ y,L[i]? = some y:=⟨_,List.getElem?_eq_getElem hi⟩;obtain⟨x,hx⟩:∃ x,L[j]? = some x:=⟨_,List.getElem?_eq_getElem hj⟩;rw[hy,hx]at he;dsimp only at he;obtain⟨sm,hf⟩:=ht y (List.mem_of_getElem? hy);obtain⟨sm',hf'⟩:=ht x (List.mem_of_getElem? hx);obtain⟨f1,_,f3⟩:=follow_at2 hf;obtain⟨f1',_,f3'⟩:=follow_at2 hf';have g2:=(read_now f1).2.1;have g2':=(read_now f1').2.1
  have hee:toldAt s l r q y=toldAt s l r q x:=by unfold toldAt at he ⊢;omega
  unfold toldAt at hee;rw[hee]at f3;have h3:=(hn i y hy).1;have h4:=(hn j x hx).1;rw[f3,←f3']at h3
  omega
theorem logs_ex {D:Dk}(hD:D.ok)(s l r q:Int):∀ (n:Nat) (p:Ps),(2147483648-p.l).toNat≤n→∃ L E err,Logs D s l r q p L E err
 | n,p,hp=>by
  obtain⟨⟨L1,E1,err1⟩,h⟩:∃ y,segOf D s l r q p=y:=⟨_,rfl⟩;obtain⟨n1,n2⟩:=seg_num hD h
  rcases List.eq_nil_or_concat L1 with rfl|⟨pre,⟨pk,R⟩,rfl⟩
  ·exact⟨_,_,_,Logs.last p [] E1 err1 p h .nil⟩
  ·rw[List.concat_eq_append]at h n1 n2;obtain⟨sm,h1,h2,_⟩:=scan_end h rfl;have hst:=Stand.snoc (s:=s) (p:=p) pre pk R sm h1;obtain⟨on,hon⟩:∃ on,(stepOn s (behind pk R sm) R).2=on:=⟨_,rfl⟩
   cases on with
   | false=>
    rw[hon]at hst;exact⟨_,_,_,Logs.last p _ E1 err1 _ h hst⟩
   | true=>
    obtain⟨_,h5,_,_,_,_⟩:=stepOn_on hon;rw[hon]at hst;obtain⟨y1,_,_,y4⟩:=n2 pre.length (pk,R) (by simp);dsimp only at y1 y4;have y5:=y4.2.1;rw[List.length_append,List.length_singleton]at n1
    have h5':(stepOn s (behind pk R sm) R).1.l=E1.l:=by rw[h5,h2]
    cases n with
    | zero=>omega
    | succ n=>
     obtain⟨L2,E2,err2,hl⟩:=logs_ex hD s l r q n (stepOn s (behind pk R sm) R).1 (by rw[h5'];omega);exact⟨_,_,_,Logs.more p _ E1 err1 _ L2 E2 err2 h hst hl⟩
theorem logs_cases {D:Dk}(hD:D.ok){s l r q:Int}{p:Ps}{L:List (Ps×Rc)}{E:Ps}{err:Int}(h:Logs D s l r q p L E err):∃ L1 E1 err1,segOf D s l r q p=(L1,E1,err1)∧
  ((L=L1∧E=E1∧err=err1∧(L1=[]∨∃ pre pk R,L1=pre++[(pk,R)]∧R.ok∧(nextVal R.its<0∨s≤nextVal R.its)))∨
   ∃ L2 pre pk R,L=L1++L2∧L1=pre++[(pk,R)]∧R.ok∧err1=0∧(0≤nextVal R.its∧nextVal R.its<s)∧Logs D s l r q ⟨nextVal R.its,0,E1.l,E1.v,E1.m⟩ L2 E err):=by
 cases h with
 | last p' L' E' err' at_ h hs=>
  refine⟨L,_,_,h,.inl ⟨rfl,rfl,rfl,?_⟩⟩
  rcases stand_step hD hs h with⟨h1,_⟩|⟨pre,pk,R,h1,h2,⟨_,h3⟩|⟨h3,_⟩⟩
  ·exact .inl h1
  ·exact .inr ⟨pre,pk,R,h1,h2,h3⟩
  ·cases h3
 | more p' L1 E1 err1 at_ L2 E2 err2 h hs h2=>
  refine⟨L1,E1,err1,h,.inr ?_⟩
  rcases stand_step hD hs h with⟨_,h1⟩|⟨pre,pk,R,h1,h3,⟨h4,_⟩|⟨_,h4,h5,h6⟩⟩
  ·cases h1
  ·cases h4
  ·subst h6;exact⟨L2,pre,pk,R,rfl,h1,h3,h4,h5,h2⟩
set_option maxRecDepth 100000 in
set_option maxHeartbeats 4000000 in
theorem rchain_any (Q G:List Nat)(rd:Nat)(D:Dk)(b s l r q:Int)(p:Ps)(w:World)(h:RD w G rd D)(hb:D.acts≤1000000)(hf:geom.Rf b s l r q)(hQ:∀ x∈Q,x<w.heap.size)(L:List (Ps×Rc))(E:Ps)(err:Int)(hl:Logs D s l r q p L E err)(hlen:L.length≤1000):
  Calls Tryz.prog 35 #[.pointer (some ⟨rd,0,none⟩),.agg #[.int .i64 b,.int .i64 s,.int .i64 l],.agg #[.int .i64 p.s,.int .i64 p.o,.int .i64 p.l,.int .i64 p.v,.int .i64 p.m]] w fun e w'=>RScanOut w' e Q L E err∧Kept [] w w':=by
 obtain⟨b4,hb4⟩:∃ b4,w.heap.size=b4:=⟨_,rfl⟩;obtain⟨w1,hw1⟩:∃ w1,w.alloc (.cells #[.int .i64 b,.int .i64 s,.int .i64 l] 29)=w1:=⟨_,rfl⟩;obtain⟨b5,hb5⟩:∃ b5,w1.heap.size=b5:=⟨_,rfl⟩;obtain⟨w2,hw2⟩:∃ w2,w1.alloc (.cells #[.int .i64 p.s,.int .i64 p.o,.int .i64 p.l,.int .i64 p.v,.int .i64 p.m] 24)=w2:=⟨_,rfl⟩;obtain⟨b7,hb7⟩:∃ b7,w2.heap.size=b7:=⟨_,rfl⟩;obtain⟨w3,hw3⟩:∃ w3,w2.alloc (.cells #[.int .i64 0,.int .i64 0,.int .i64 0,.int .i64 0,.int .i64 0] 24)=w3:=⟨_,rfl⟩
 have k1:Kept [] w w1:=by rw[←hw1];exact(Kept.refl [] w).alloc _
 have k2:Kept [] w1 w2:=by rw[←hw2];exact(Kept.refl [] w1).alloc _
 have k3:Kept [] w2 w3:=by rw[←hw3];exact(Kept.refl [] w2).alloc _
 have m1:Blk w1 b4 29 #[.int .i64 b,.int .i64 s,.int .i64 l]:=by rw[←hw1,←hb4];exact Blk.new w _ _
 have m2:Blk w2 b5 24 #[.int .i64 p.s,.int .i64 p.o,.int .i64 p.l,.int .i64 p.v,.int .i64 p.m]:=by rw[←hw2,←hb5];exact Blk.new w1 _ _
 have m3:Blk w3 b7 24 #[.int .i64 0,.int .i64 0,.int .i64 0,.int .i64 0,.int .i64 0]:=by rw[←hw3,←hb7];exact Blk.new w2 _ _
 have HM0:=hide (SM.mk (k3.blk (k2.blk m1 (by simp)) (by simp)) (k3.blk m2 (by simp)) m3);have HK0:=hide ((k1.trans k2 (by simp)).trans k3 (by simp));have HSEP:=hide (show w.heap.size≤b4∧b4<b5∧b5<b7 by have a1:=m1.lt;have a2:=m2.lt;omega);have HD0:=hide (h.kept HK0.out (by simp));have HOK:=hide h.1;have HGL:=hide h.lt;have HF:=hide hf;have HQ:=hide hQ;have HAC:=hide hb;obtain⟨bz,hbz⟩:∃ bz,w3.heap.size=bz:=⟨_,rfl⟩;have HBZ:=hide (show b7<bz∧w3.heap.size≤bz∧bz≤w3.heap.size from⟨by rw[←hbz];exact m3.lt,by omega,by omega⟩);have HLEN:=hide hlen;have HLG0:=sealed hl;clear k1 k2 k3 m1 m2 m3 h hf hQ hb hl hlen;go_enter Tryz.func35,Tryz.ntmps35;go_wp2;clear hw1 hw2 hw3 hb4 hb5 hb7
 go_loopw [9,10,11,12,13] (fun v _ _ _ _ wr=>∃ (pre L2:List (Ps×Rc)) (x:Ps) (A0:Option Addr) (cc:Nat) (xs:List Value),v= .slice A0 pre.length cc∧Hid (L=pre++L2)∧Seal (Logs D s l r q x L2 E err)∧Hid (wr.ownsRow bz 153 10 (.slice A0 pre.length cc) pre.length xs)∧Hid (FndX wr (b7::b5::(Q++(Value.slice A0 pre.length cc).ownBlock.toList)) pre xs)∧Hid (RD wr G rd D)∧Hid (SM wr b4 b5 b7 b s l x)∧Hid (Kept [] w wr)∧Hid (bz≤wr.heap.size)) (fun v _ _ _ _ _=>match v with| .slice _ n _=>1000-n|_=>0)
 case atStart=>exact⟨[],L,p,none,0,[],rfl,hide rfl,HLG0,hide (World.ownsRow_nil _ _ _ _),hide rfl,HD0,HM0,HK0,hide HBZ.out.2.2⟩
 case round=>
  clear HM0 HK0 HD0 HLG0;obtain⟨pre,L2,x,A0,cc,xs,rfl,HPL,HLG,HOW,HFX,HD,HM,HK,HZ⟩:=hrel;obtain⟨L1,E1,err1,hsg,hcs⟩:=logs_cases HOK.out HLG.out;have HSG:=sealed hsg;have HCS:=sealed hcs
  have HLE:=hide (show pre.length+L1.length≤1000 from by
   have h1:=HLEN.out;rw[HPL.out,List.length_append]at h1
   rcases hcs with⟨rfl,_⟩|⟨L3,_,_,_,rfl,_⟩
   ·exact h1
   ·rw[List.length_append]at h1;omega)
  clear hsg hcs;obtain⟨c0,c1,c2⟩:wr.cell? ⟨b4,0,none⟩=some (.int .i64 b)∧wr.cell? ⟨b4,1,none⟩=some (.int .i64 s)∧wr.cell? ⟨b4,2,none⟩=some (.int .i64 l):=⟨HM.out.c.cell 0,HM.out.c.cell 1,HM.out.c.cell 2⟩;obtain⟨p0,p1,p2,p3,p4⟩:=cell5 HM.out.p;have HOLT:=hide (show ∀ y∈(Value.slice A0 pre.length cc).ownBlock.toList,b7<y∧y<wr.heap.size from fun y hy=>⟨by have h1:=(own_blk HOW.out y hy).1;have h2:=HBZ.out;omega,(own_blk HOW.out y hy).2.1⟩)
  have HRS:=hide (rscan_any (b7::b5::(Q++(Value.slice A0 pre.length cc).ownBlock.toList)) G rd D b s l r q x wr HD.out HAC.out HF.out (fun y hy=>by
   simp only[List.mem_cons,List.mem_append]at hy
   rcases hy with rfl|rfl|hy|hy
   ·exact HM.out.r.lt
   ·exact HM.out.p.lt
   ·exact Nat.lt_of_lt_of_le (HQ.out y hy) HK.out.size
   ·exact(HOLT.out y hy).2) L1 E1 err1 HSG.out)
  go_wp2_with fail;refine HRS.out.mono ?_;rintro e w8 ⟨⟨A1,c1',ys,rfl,hvy,hfy⟩,hk8⟩;obtain⟨b11,hb11⟩:∃ y,w8.heap.size=y:=⟨_,rfl⟩;obtain⟨w9,hw9⟩:∃ y,w8.alloc (.cells #[.int .i64 E1.s,.int .i64 E1.o,.int .i64 E1.l,.int .i64 E1.v,.int .i64 E1.m] 24)=y:=⟨_,rfl⟩
  have ka:Kept [] w8 w9:=by rw[←hw9];exact(Kept.refl [] w8).alloc _
  have kb:=hk8.trans ka (by simp)
  have m11:Blk w9 b11 24 #[.int .i64 E1.s,.int .i64 E1.o,.int .i64 E1.l,.int .i64 E1.v,.int .i64 E1.m]:=by rw[←hw9,←hb11];exact Blk.new w8 _ _
  have HB9:=hide m11;have HVY:=hide (hvy.kept ka (by simp));have HFY:=hide (hfy.kept ka (by simp));have HONE:=hide (hfy.one);have HOW9:=hide (own_keep HOW.out kb (by simp));have HFX9:=hide (HFX.out.kept kb (by simp));have HM9:=hide (HM.out.kept kb);have HD9:=hide (HD.out.kept kb (by simp));have HK9:=hide (HK.out.trans kb (by simp));have HZ9:=hide (Nat.le_trans HZ.out kb.size);have HB11:=hide (show b7<b11∧∀ y∈(Value.slice A0 pre.length cc).ownBlock.toList,y<b11 from⟨by have h1:=HBZ.out;have h2:=HZ.out;have h3:=hk8.size;omega,fun y hy=>by have h1:=(HOLT.out y hy).2;have h2:=hk8.size;omega⟩);have HGB:=hide (show ∀ y∈G,y<b4 from fun y hy=>by have h1:=HGL.out y hy;have h2:=HSEP.out;omega);have hle:=HLE.out;clear hvy hfy ka kb m11 HRS HOW HFX HM HD HK HZ hk8 c0 c1 c2 p0 p1 p2 p3 p4;go_upto_region 4 with(at_builtin;refine wpList_append_vals rfl (.tmp 22) (.tmp 23) 53 rfl bz 153 (.agg #[.int .i64 0,.int .i64 0,.int .i64 0,.int .i64 0,.int .i64 0,.int .i64 0,.int .i64 0,.int .i64 0,.slice none 0 0,.slice none 0 0]) 10 112 Tryz.underlying53 foundX_info rfl (by omega) (.slice A0 pre.length cc) pre.length xs rfl HOW9.out (b7::b5::(Q++(Value.slice A0 pre.length cc).ownBlock.toList)) A1 L1.length c1' ys rfl HONE.out.1 HVY.out HONE.out.2 (by simp only[maxLen];omega) (by omega) HZ9.out ?_;intro v9 w10 hown10 hk10 hat10;obtain⟨A9,c9,rfl,_,_⟩:=own_read hown10;have HOWN:=hide hown10;have HK10:=hide hk10;have HAT:=hide hat10;clear hown10 hk10 hat10);have HVYe:=hide (HVY.out.kept HK10.out (fun i hi=>by simp [hi]))
  have HFYe:=hide (HFY.out.kept HK10.out (fun i hi=>by simp [hi]));have HFXe:=hide (HFX9.out.kept HK10.out (fun i hi=>by simp [hi]));have HSUB:=hide (show ∀ i∈(Value.slice A9 (pre.length+L1.length) c9).ownBlock.toList,i∈(Value.slice A0 pre.length cc).ownBlock.toList∨w9.heap.size≤i from fun i hi=>HAT.out.elim (fun h=> .inl (by rw[←h];exact hi)) (fun h=> .inr (by rw[h]at hi;simp at hi;omega)))
  have HFN:=hide (show FndX w10 (b7::b5::(Q++(Value.slice A9 (pre.length+L1.length) c9).ownBlock.toList)) (pre++L1) (xs++ys)from by
   have h1:=(HFX9.out.append HFY.out).away (S':=(b7::b5::(Q++(Value.slice A0 pre.length cc).ownBlock.toList))++(Value.slice A9 (pre.length+L1.length) c9).ownBlock.toList) (fun i hi=>(List.mem_append.1 hi).elim .inl (fun h=>(HSUB.out i h).imp (fun h=>by simp [h]) id))
   exact(h1.kept HK10.out (fun i hi=>by simp [hi])).away (fun i hi=> .inl (by
    simp only[List.mem_cons,List.mem_append]at hi ⊢
    rcases hi with hi|hi|hi|hi
    ·exact .inl (.inl hi)
    ·exact .inl (.inr (.inl hi))
    ·exact .inl (.inr (.inr (.inl hi)))
    ·exact .inr hi)))
  have HO9:=hide (show ∀ i∈(Value.slice A9 (pre.length+L1.length) c9).ownBlock.toList,b7<i from fun i hi=>by have h1:=(own_blk HOWN.out i hi).1;have h2:=HBZ.out;omega);have HBE:=hide (HK10.out.blk HB9.out (fun hm=>by have:=HB11.out.2 _ hm;omega));have HM:=hide (show SM w10 b4 b5 b7 b s l x from⟨HK10.out.blk HM9.out.c (fun hm=>by have h1:=(HOLT.out _ hm).1;have h2:=HSEP.out;omega),HK10.out.blk HM9.out.p (fun hm=>by have h1:=(HOLT.out _ hm).1;have h2:=HSEP.out;omega),HK10.out.blk HM9.out.r (fun hm=>by have h1:=(HOLT.out _ hm).1;omega)⟩);have HK:=hide (HK9.out.trans HK10.out (fun i hi=> .inr (by have h1:=(HOLT.out i hi).1;have h2:=HSEP.out;omega)));have HD:=hide (HD9.out.kept HK10.out (fun i hi hm=>by have h1:=(HOLT.out i hm).1;have h2:=HGB.out i hi;have h3:=HSEP.out;omega));have HZ:=hide (Nat.le_trans HZ9.out HK10.out.size);clear HB9 HVY HFY HOW9 HFX9 HM9 HD9 HK9 HZ9 HK10 HAT HFXe HSUB hb11 hw9;obtain⟨c0,c1,c2⟩:w10.cell? ⟨b4,0,none⟩=some (.int .i64 b)∧w10.cell? ⟨b4,1,none⟩=some (.int .i64 s)∧w10.cell? ⟨b4,2,none⟩=some (.int .i64 l):=⟨HM.out.c.cell 0,HM.out.c.cell 1,HM.out.c.cell 2⟩
  by_cases he:err1=0
  case neg=>
   have HEQ:=hide (show L=pre++L1∧E=E1∧err=err1 from by
    have h1:=HPL.out
    rcases HCS.out with⟨rfl,h2,h3,_⟩|⟨_,_,_,_,_,_,_,h2,_⟩
    ·exact⟨h1,h2,h3⟩
    ·exact absurd h2 he)
   have t0:(err1==0)=false:=beq_eq_false_iff_ne.2 he;have HE:=hide he;clear he HVYe HFYe;obtain⟨p0,p1,p2,p3,p4⟩:=cell5 HBE.out;obtain⟨r0,r1,r2,r3,r4⟩:=cell5 HM.out.r;have fr:=HM.out.r.frozen;have fr0:=fr 0;have fr1:=fr 1;have fr2:=fr 2;have fr3:=fr 3;have fr4:=fr 4;have HBA:=hide ((put5 (.int .i64 E1.s) (.int .i64 E1.o) (.int .i64 E1.l) (.int .i64 E1.v) (.int .i64 E1.m) HM.out.r).drew);have HKA:=hide ((put5_kept (g:=b7) (S:=[b7]) (.int .i64 E1.s) (.int .i64 E1.o) (.int .i64 E1.l) (.int .i64 E1.v) (.int .i64 E1.m) (Kept.refl [b7] w10) (.inl (by simp))).drew);clear fr;go_wp2;refine wp_region_noPanic ?_;refine wp_region_held_drew (S:=fun W=>True∧W.cell? ⟨b11,0,none⟩=some (.int .i64 E1.s)∧W.cell? ⟨b11,1,none⟩=some (.int .i64 E1.o)∧W.cell? ⟨b11,2,none⟩=some (.int .i64 E1.l)∧W.cell? ⟨b11,3,none⟩=some (.int .i64 E1.v)∧W.cell? ⟨b11,4,none⟩=some (.int .i64 E1.m)) (by kernel_rfl) (by exact⟨trivial,p0,p1,p2,p3,p4⟩) (fun hHeld=> ?_);refine tK 0 32 rfl ?_;refine tK 1 33 rfl ?_;refine tK 2 34 rfl ?_;refine tK 3 6 rfl ?_;refine hO 4 none rfl fun K hK=> ?_;go_simp;generalize (World.setCell (World.setCell (World.setCell (World.setCell (World.setCell (w10) ⟨b7,0,none⟩ (.int .i64 E1.s)) ⟨b7,1,none⟩ (.int .i64 E1.o)) ⟨b7,2,none⟩ (.int .i64 E1.l)) ⟨b7,3,none⟩ (.int .i64 E1.v)) ⟨b7,4,none⟩ (.int .i64 E1.m)).drew=wA at HBA HKA ⊢;obtain⟨p0,p1,p2,p3,p4⟩:=cell5 (HKA.out.blk HBE.out (by have:=HB11.out;simp;omega));refine hK.out _ _ (by exact⟨trivial,p0,p1,p2,p3,p4⟩) (fun hHeld=>tS ?_);clear hK K;refine tK 5 8 rfl ?_
   refine wpAnyH_done (by kernel_rfl) ?_ _;refine NoPanic.normal ?_;go_wp2;obtain⟨v0,v1,v2,v3,v4⟩:=cell5 HBA.out;have HK9:=hide (HK.out.trans HKA.out (fun i hi=>by simp at hi;subst hi;have:=HSEP.out;exact .inr (by omega)));refine bodyPost_ret (v:= .tuple #[.slice A9 (pre.length+L1.length) c9,.agg #[.int .i64 E1.s,.int .i64 E1.o,.int .i64 E1.l,.int .i64 E1.v,.int .i64 E1.m],.int .i64 err1]) ?_ rfl ⟨RScanOut.of (Q':=b7::b5::(Q++(Value.slice A9 (pre.length+L1.length) c9).ownBlock.toList)) (own_keep HOWN.out HKA.out (fun i hi hm=>by simp at hi;subst hi;have h1:=HO9.out _ hm;omega)) (fun y hy=>by have h1:=HQ.out y hy;have h2:=HBZ.out;have h3:=HSEP.out;omega) (HFN.out.kept HKA.out (fun i hi=>by simp at hi;subst hi;simp)) (fun y hy=>by simp [hy]) (by rw[List.length_append]) HEQ.out.1 HEQ.out.2.1 HEQ.out.2.2,HK9.out⟩
   simp [results,Tryz.results35,go_sem,v0,v1,v2,v3,v4]
  case pos=>
   subst he
   rcases List.eq_nil_or_concat L1 with hnil|⟨pre1,⟨pk,R⟩,hcon⟩
   ·have HEQ:=hide (show L=pre++L1∧E=E1∧err=0 from by
     have h1:=HPL.out
     rcases HCS.out with⟨rfl,h2,h3,_⟩|⟨_,pr,_,_,_,h2,_⟩
     ·exact⟨h1,h2,h3⟩
     ·rw[hnil]at h2;simp at h2)
    have hz:L1.length=0:=by rw[hnil];rfl
    have HLZ:=hide hz;clear hnil HVYe HFYe hz
    have t1:((L1.length:Int)==0)=true:=by rw[HLZ.out];rfl
    obtain⟨p0,p1,p2,p3,p4⟩:=cell5 HBE.out;obtain⟨r0,r1,r2,r3,r4⟩:=cell5 HM.out.r;have fr:=HM.out.r.frozen;have fr0:=fr 0;have fr1:=fr 1;have fr2:=fr 2;have fr3:=fr 3;have fr4:=fr 4;have HBA:=hide ((put5 (.int .i64 E1.s) (.int .i64 E1.o) (.int .i64 E1.l) (.int .i64 E1.v) (.int .i64 E1.m) HM.out.r).drew);have HKA:=hide ((put5_kept (g:=b7) (S:=[b7]) (.int .i64 E1.s) (.int .i64 E1.o) (.int .i64 E1.l) (.int .i64 E1.v) (.int .i64 E1.m) (Kept.refl [b7] w10) (.inl (by simp))).drew);clear fr;go_wp2;refine wp_region_noPanic ?_;refine wp_region_held_drew (S:=fun W=>True∧W.cell? ⟨b11,0,none⟩=some (.int .i64 E1.s)∧W.cell? ⟨b11,1,none⟩=some (.int .i64 E1.o)∧W.cell? ⟨b11,2,none⟩=some (.int .i64 E1.l)∧W.cell? ⟨b11,3,none⟩=some (.int .i64 E1.v)∧W.cell? ⟨b11,4,none⟩=some (.int .i64 E1.m)) (by kernel_rfl) (by exact⟨trivial,p0,p1,p2,p3,p4⟩) (fun hHeld=> ?_);refine tK 0 32 rfl ?_;refine tK 1 33 rfl ?_;refine tK 2 34 rfl ?_;refine tK 3 6 rfl ?_;refine hO 4 none rfl fun K hK=> ?_;go_simp;generalize (World.setCell (World.setCell (World.setCell (World.setCell (World.setCell (w10) ⟨b7,0,none⟩ (.int .i64 E1.s)) ⟨b7,1,none⟩ (.int .i64 E1.o)) ⟨b7,2,none⟩ (.int .i64 E1.l)) ⟨b7,3,none⟩ (.int .i64 E1.v)) ⟨b7,4,none⟩ (.int .i64 E1.m)).drew=wA at HBA HKA ⊢;obtain⟨p0,p1,p2,p3,p4⟩:=cell5 (HKA.out.blk HBE.out (by have:=HB11.out;simp;omega));refine hK.out _ _ (by exact⟨trivial,p0,p1,p2,p3,p4⟩) (fun hHeld=>tS ?_);clear hK K;refine tK 5 8 rfl ?_;refine wpAnyH_done (by kernel_rfl) ?_ _;refine NoPanic.normal ?_;go_wp2
    obtain⟨v0,v1,v2,v3,v4⟩:=cell5 HBA.out;have HK9:=hide (HK.out.trans HKA.out (fun i hi=>by simp at hi;subst hi;have:=HSEP.out;exact .inr (by omega)));refine bodyPost_ret (v:= .tuple #[.slice A9 (pre.length+L1.length) c9,.agg #[.int .i64 E1.s,.int .i64 E1.o,.int .i64 E1.l,.int .i64 E1.v,.int .i64 E1.m],.int .i64 0]) ?_ rfl ⟨RScanOut.of (Q':=b7::b5::(Q++(Value.slice A9 (pre.length+L1.length) c9).ownBlock.toList)) (own_keep HOWN.out HKA.out (fun i hi hm=>by simp at hi;subst hi;have h1:=HO9.out _ hm;omega)) (fun y hy=>by have h1:=HQ.out y hy;have h2:=HBZ.out;have h3:=HSEP.out;omega) (HFN.out.kept HKA.out (fun i hi=>by simp at hi;subst hi;simp)) (fun y hy=>by simp [hy]) (by rw[List.length_append]) HEQ.out.1 HEQ.out.2.1 HEQ.out.2.2,HK9.out⟩
    simp [results,Tryz.results35,go_sem,v0,v1,v2,v3,v4]
   ·rw[List.concat_eq_append]at hcon
    have hl1:L1.length=pre1.length+1:=by rw[hcon];simp
    have hfl:=HFYe.out;rw[hcon]at hfl;obtain⟨ad,Li,n,lc,P,k,pc,rfl,hrc,r5,r6,r7,r8,r9⟩:=FndX.last HVYe.out hfl;have t1:((L1.length:Int)==0)=false:=beq_eq_false_iff_ne.2 (by omega)
    have t2:IntKind.i64.wrap ((L1.length:Int)-1)=(pre1.length:Int):=by rw[IntWalk.i64_in _ (by omega)];omega
    have t3:¬(pre1.length:Int)<0:=by omega
    have t4:(pre1.length:Int)<(L1.length:Int):=by omega
    have t5:(L1.length:Int)-1=(pre1.length:Int):=by omega
    have HCON:=hide hcon;have HL1:=hide hl1;have HRC:=hide (hrc.away (S':=[]) (by simp))
    have HC2:Seal ((L=pre++L1∧E=E1∧err=0∧(nextVal R.its<0∨s≤nextVal R.its))∨∃ L3,L=(pre++L1)++L3∧(0≤nextVal R.its∧nextVal R.its<s)∧Logs D s l r q ⟨nextVal R.its,0,E1.l,E1.v,E1.m⟩ L3 E err):=sealed (by
     have h1:=HPL.out
     rcases HCS.out with⟨rfl,h2,h3,h4⟩|⟨L3,pr,pk',R',h2,h3,h4,_,h5,h6⟩
     ·rcases h4 with h4|⟨pr,pk',R',h4,_,h5⟩
      ·rw[h4]at hl1;simp at hl1
      ·rw[hcon]at h4;obtain⟨_,h6⟩:=List.append_inj' h4 rfl;injection h6 with h6 _;injection h6 with _ h6;subst h6;exact .inl ⟨h1,h2,h3,h5⟩
     ·rw[hcon]at h3;obtain⟨_,h7⟩:=List.append_inj' h3 rfl;injection h7 with h7 _;injection h7 with _ h7;subst h7
      exact .inr ⟨L3,by rw[h1,h2,List.append_assoc],h5,h6⟩)
    have HRK:=hide (show R.ok from by
     rcases HCS.out with⟨_,_,_,h4⟩|⟨L3,pr,pk',R',h2,h3,h4,_⟩
     ·rcases h4 with h4|⟨pr,pk',R',h4,h5,_⟩
      ·rw[h4]at hl1;simp at hl1
      ·rw[hcon]at h4;obtain⟨_,h6⟩:=List.append_inj' h4 rfl;injection h6 with h6 _;injection h6 with _ h6;subst h6;exact h5
     ·rw[hcon]at h3;obtain⟨_,h7⟩:=List.append_inj' h3 rfl;injection h7 with h7 _;injection h7 with _ h7;subst h7
      exact h4)
    clear hcon hfl hrc HFYe HVYe hl1 HCS;go_wp2_with fail;refine(rnextOf_any R Li P n lc k pc w10 HRC.out.its HRC.out.hn (by have h1:=HRC.out.hn;have h2:=HRK.out.2.2.2.1.2;omega)).mono ?_;rintro e w11 ⟨rfl,hk11⟩;have HMn:=hide (HM.out.kept hk11);have HBn:=hide (hk11.blk HBE.out (by simp));have HKn:=hide (HK.out.trans hk11 (by simp));have HDn:=hide (HD.out.kept hk11 (by simp));have HOn:=hide (own_keep HOWN.out hk11 (by simp));have HFn:=hide (HFN.out.kept hk11 (by simp));have HZn:=hide (Nat.le_trans HZ.out hk11.size);clear hk11 HM HBE HK HD HOWN HFN HZ r5 r6 r7 r8 r9 c0 c1 c2 t1 t2 t3 t4 t5 HRC;have HM:=hide HMn.out;have HBE:=hide HBn.out;have HK:=hide HKn.out;have HD:=hide HDn.out;have HOWN:=hide HOn.out;have HFN:=hide HFn.out;have HZ:=hide HZn.out;clear HMn HBn HKn HDn HOn HFn HZn;obtain⟨nv,hnv⟩:∃ nv,nextVal R.its=nv:=⟨_,rfl⟩;rw[hnv]at HC2 ⊢;clear hnv;obtain⟨c0,c1,c2⟩:w11.cell? ⟨b4,0,none⟩=some (.int .i64 b)∧w11.cell? ⟨b4,1,none⟩=some (.int .i64 s)∧w11.cell? ⟨b4,2,none⟩=some (.int .i64 l):=⟨HM.out.c.cell 0,HM.out.c.cell 1,HM.out.c.cell 2⟩
    by_cases h0:nv<0
    ·have HEQ:=hide (show L=pre++L1∧E=E1∧err=0 from by
      rcases HC2.out with⟨h1,h2,h3,_⟩|⟨_,_,h2,_⟩
      ·exact⟨h1,h2,h3⟩
      ·omega)
     have d0:decide (nv<0)=true:=decide_eq_true h0;clear HC2;obtain⟨p0,p1,p2,p3,p4⟩:=cell5 HBE.out;obtain⟨r0,r1,r2,r3,r4⟩:=cell5 HM.out.r;have fr:=HM.out.r.frozen;have fr0:=fr 0;have fr1:=fr 1;have fr2:=fr 2;have fr3:=fr 3;have fr4:=fr 4;have HBA:=hide ((put5 (.int .i64 E1.s) (.int .i64 E1.o) (.int .i64 E1.l) (.int .i64 E1.v) (.int .i64 E1.m) HM.out.r).drew);have HKA:=hide ((put5_kept (g:=b7) (S:=[b7]) (.int .i64 E1.s) (.int .i64 E1.o) (.int .i64 E1.l) (.int .i64 E1.v) (.int .i64 E1.m) (Kept.refl [b7] w11) (.inl (by simp))).drew);clear fr;go_wp2;refine wp_region_noPanic ?_;refine wp_region_held_drew (S:=fun W=>True∧W.cell? ⟨b11,0,none⟩=some (.int .i64 E1.s)∧W.cell? ⟨b11,1,none⟩=some (.int .i64 E1.o)∧W.cell? ⟨b11,2,none⟩=some (.int .i64 E1.l)∧W.cell? ⟨b11,3,none⟩=some (.int .i64 E1.v)∧W.cell? ⟨b11,4,none⟩=some (.int .i64 E1.m)) (by kernel_rfl) (by exact⟨trivial,p0,p1,p2,p3,p4⟩) (fun hHeld=> ?_);refine tK 0 51 rfl ?_;refine tK 1 52 rfl ?_;refine tK 2 53 rfl ?_;refine tK 3 6 rfl ?_;refine hO 4 none rfl fun K hK=> ?_;go_simp;generalize (World.setCell (World.setCell (World.setCell (World.setCell (World.setCell (w11) ⟨b7,0,none⟩ (.int .i64 E1.s)) ⟨b7,1,none⟩ (.int .i64 E1.o)) ⟨b7,2,none⟩ (.int .i64 E1.l)) ⟨b7,3,none⟩ (.int .i64 E1.v)) ⟨b7,4,none⟩ (.int .i64 E1.m)).drew=wA at HBA HKA ⊢;obtain⟨p0,p1,p2,p3,p4⟩:=cell5 (HKA.out.blk HBE.out (by have:=HB11.out;simp;omega));refine hK.out _ _ (by exact⟨trivial,p0,p1,p2,p3,p4⟩) (fun hHeld=>tS ?_);clear hK K;refine tK 5 8 rfl ?_;refine wpAnyH_done (by kernel_rfl) ?_ _
     refine NoPanic.normal ?_;go_wp2;obtain⟨v0,v1,v2,v3,v4⟩:=cell5 HBA.out;have HK9:=hide (HK.out.trans HKA.out (fun i hi=>by simp at hi;subst hi;have:=HSEP.out;exact .inr (by omega)));refine bodyPost_ret (v:= .tuple #[.slice A9 (pre.length+L1.length) c9,.agg #[.int .i64 E1.s,.int .i64 E1.o,.int .i64 E1.l,.int .i64 E1.v,.int .i64 E1.m],.int .i64 0]) ?_ rfl ⟨RScanOut.of (Q':=b7::b5::(Q++(Value.slice A9 (pre.length+L1.length) c9).ownBlock.toList)) (own_keep HOWN.out HKA.out (fun i hi hm=>by simp at hi;subst hi;have h1:=HO9.out _ hm;omega)) (fun y hy=>by have h1:=HQ.out y hy;have h2:=HBZ.out;have h3:=HSEP.out;omega) (HFN.out.kept HKA.out (fun i hi=>by simp at hi;subst hi;simp)) (fun y hy=>by simp [hy]) (by rw[List.length_append]) HEQ.out.1 HEQ.out.2.1 HEQ.out.2.2,HK9.out⟩
     simp [results,Tryz.results35,go_sem,v0,v1,v2,v3,v4]
    ·have d0:decide (nv<0)=false:=decide_eq_false h0
     by_cases h1:s≤nv
     ·have HEQ:=hide (show L=pre++L1∧E=E1∧err=0 from by
       rcases HC2.out with⟨h1,h2,h3,_⟩|⟨_,_,h2,_⟩
       ·exact⟨h1,h2,h3⟩
       ·omega)
      have d1:decide (nv≥s)=true:=decide_eq_true h1;clear HC2;obtain⟨p0,p1,p2,p3,p4⟩:=cell5 HBE.out;obtain⟨r0,r1,r2,r3,r4⟩:=cell5 HM.out.r;have fr:=HM.out.r.frozen;have fr0:=fr 0;have fr1:=fr 1;have fr2:=fr 2;have fr3:=fr 3;have fr4:=fr 4;have HBA:=hide ((put5 (.int .i64 E1.s) (.int .i64 E1.o) (.int .i64 E1.l) (.int .i64 E1.v) (.int .i64 E1.m) HM.out.r).drew);have HKA:=hide ((put5_kept (g:=b7) (S:=[b7]) (.int .i64 E1.s) (.int .i64 E1.o) (.int .i64 E1.l) (.int .i64 E1.v) (.int .i64 E1.m) (Kept.refl [b7] w11) (.inl (by simp))).drew);clear fr;go_wp2;refine wp_region_noPanic ?_;refine wp_region_held_drew (S:=fun W=>True∧W.cell? ⟨b11,0,none⟩=some (.int .i64 E1.s)∧W.cell? ⟨b11,1,none⟩=some (.int .i64 E1.o)∧W.cell? ⟨b11,2,none⟩=some (.int .i64 E1.l)∧W.cell? ⟨b11,3,none⟩=some (.int .i64 E1.v)∧W.cell? ⟨b11,4,none⟩=some (.int .i64 E1.m)) (by kernel_rfl) (by exact⟨trivial,p0,p1,p2,p3,p4⟩) (fun hHeld=> ?_);refine tK 0 51 rfl ?_;refine tK 1 52 rfl ?_;refine tK 2 53 rfl ?_;refine tK 3 6 rfl ?_;refine hO 4 none rfl fun K hK=> ?_;go_simp;generalize (World.setCell (World.setCell (World.setCell (World.setCell (World.setCell (w11) ⟨b7,0,none⟩ (.int .i64 E1.s)) ⟨b7,1,none⟩ (.int .i64 E1.o)) ⟨b7,2,none⟩ (.int .i64 E1.l)) ⟨b7,3,none⟩ (.int .i64 E1.v)) ⟨b7,4,none⟩ (.int .i64 E1.m)).drew=wA at HBA HKA ⊢;obtain⟨p0,p1,p2,p3,p4⟩:=cell5 (HKA.out.blk HBE.out (by have:=HB11.out;simp;omega));refine hK.out _ _ (by exact⟨trivial,p0,p1,p2,p3,p4⟩) (fun hHeld=>tS ?_);clear hK K;refine tK 5 8 rfl ?_;refine wpAnyH_done (by kernel_rfl) ?_ _
      refine NoPanic.normal ?_;go_wp2;obtain⟨v0,v1,v2,v3,v4⟩:=cell5 HBA.out;have HK9:=hide (HK.out.trans HKA.out (fun i hi=>by simp at hi;subst hi;have:=HSEP.out;exact .inr (by omega)));refine bodyPost_ret (v:= .tuple #[.slice A9 (pre.length+L1.length) c9,.agg #[.int .i64 E1.s,.int .i64 E1.o,.int .i64 E1.l,.int .i64 E1.v,.int .i64 E1.m],.int .i64 0]) ?_ rfl ⟨RScanOut.of (Q':=b7::b5::(Q++(Value.slice A9 (pre.length+L1.length) c9).ownBlock.toList)) (own_keep HOWN.out HKA.out (fun i hi hm=>by simp at hi;subst hi;have h1:=HO9.out _ hm;omega)) (fun y hy=>by have h1:=HQ.out y hy;have h2:=HBZ.out;have h3:=HSEP.out;omega) (HFN.out.kept HKA.out (fun i hi=>by simp at hi;subst hi;simp)) (fun y hy=>by simp [hy]) (by rw[List.length_append]) HEQ.out.1 HEQ.out.2.1 HEQ.out.2.2,HK9.out⟩
      simp [results,Tryz.results35,go_sem,v0,v1,v2,v3,v4]
     ·have d1:decide (nv≥s)=false:=decide_eq_false h1
      obtain⟨L3,hl3,hv3,hg3⟩:∃ L3,L=(pre++L1)++L3∧(0≤nv∧nv<s)∧Logs D s l r q ⟨nv,0,E1.l,E1.v,E1.m⟩ L3 E err:=by
       rcases HC2.out with⟨_,_,_,h2⟩|h2
       ·omega
       ·exact h2
      have HL3:=hide hl3;have HG3:=sealed hg3;clear HC2 hl3 hg3;obtain⟨p0,p1,p2,p3,p4⟩:=cell5 HBE.out;have fr:=HM.out.p.frozen;have fr0:=fr 0;have fr1:=fr 1;have fr2:=fr 2;have fr3:=fr 3;have fr4:=fr 4;obtain⟨o0,o1,o2,o3,o4⟩:=cell5 HM.out.p;have hk5:=put5_kept (g:=b5) (S:=[b5]) (.int .i64 E1.s) (.int .i64 E1.o) (.int .i64 E1.l) (.int .i64 E1.v) (.int .i64 E1.m) (Kept.refl [b5] w11) (.inl (by simp));have hb5:=put5 (.int .i64 E1.s) (.int .i64 E1.o) (.int .i64 E1.l) (.int .i64 E1.v) (.int .i64 E1.m) HM.out.p;have HB5:=hide hb5;have HK5:=hide hk5;clear fr hk5 hb5;go_upto_region 10 with fail;generalize World.setCell (World.setCell (World.setCell (World.setCell (World.setCell (w11) ⟨b5,0,none⟩ (.int .i64 E1.s)) ⟨b5,1,none⟩ (.int .i64 E1.o)) ⟨b5,2,none⟩ (.int .i64 E1.l)) ⟨b5,3,none⟩ (.int .i64 E1.v)) ⟨b5,4,none⟩ (.int .i64 E1.m)=w12 at HB5 HK5 ⊢;clear p0 p1 p2 p3 p4 fr0 fr1 fr2 fr3 fr4 o0 o1 o2 o3 o4;have fr0:=HB5.out.frozen 0;have o0:=(cell5 HB5.out).1;go_upto_region 11 with fail;have HB6:=hide (show Blk (w12.setCell ⟨b5,0,none⟩ (.int .i64 nv)) b5 24 #[.int .i64 nv,.int .i64 E1.o,.int .i64 E1.l,.int .i64 E1.v,.int .i64 E1.m]from Blk.set_ HB5.out 0 (.int .i64 nv));have HK6:=hide (show Kept [b5] w11 (w12.setCell ⟨b5,0,none⟩ (.int .i64 nv))from HK5.out.set_ (b:=b5) (.inl (by simp)) 0 (.int .i64 nv));generalize w12.setCell ⟨b5,0,none⟩ (.int .i64 nv)=w13 at HB6 HK6 ⊢;clear fr0 o0;have fr1:=HB6.out.frozen 1;have o1:w13.cell? ⟨b5,1,none⟩=some (.int .i64 E1.o):=HB6.out.cell 1;go_wp2;have HB7:=hide (show Blk (w13.setCell ⟨b5,1,none⟩ (.int .i64 0)) b5 24 #[.int .i64 nv,.int .i64 0,.int .i64 E1.l,.int .i64 E1.v,.int .i64 E1.m]from Blk.set_ HB6.out 1 (.int .i64 0))
      have HK7:=hide (show Kept [b5] w11 (w13.setCell ⟨b5,1,none⟩ (.int .i64 0))from HK6.out.set_ (b:=b5) (.inl (by simp)) 1 (.int .i64 0));generalize w13.setCell ⟨b5,1,none⟩ (.int .i64 0)=w14 at HB7 HK7 ⊢;have HSM:=hide (show SM w14 b4 b5 b7 b s l ⟨nv,0,E1.l,E1.v,E1.m⟩from⟨HK7.out.blk HM.out.c (by have:=HSEP.out;simp;omega),HB7.out,HK7.out.blk HM.out.r (by have:=HSEP.out;simp;omega)⟩);have HKR:=hide (HK.out.trans HK7.out (fun i hi=> .inr (by simp at hi;have:=HSEP.out;omega)));have HOR:=hide (own_keep HOWN.out HK7.out (fun i hi hm=>by simp at hi;have h1:=HO9.out _ hm;have h2:=HSEP.out;omega));have HFR:=hide (HFN.out.kept HK7.out (fun i hi=>by simp at hi;subst hi;simp));have HDR:=hide (HD.out.kept HK7.out (fun i hi hm=>by simp at hm;have h1:=HGB.out i hi;have h2:=HSEP.out;omega));have HZR:=hide (Nat.le_trans HZ.out HK7.out.size);have hlb:=HLE.out;have hl1:=HL1.out;go_roundw
      case rel=>exact⟨pre++L1,L3,_,A9,c9,xs++ys,by rw[List.length_append],HL3,HG3,hide (by rw[List.length_append];exact HOR.out),hide (by rw[List.length_append];exact HFR.out),HDR,HSM,HKR,HZR⟩
      case measure=>simp;omega
end Go.Proofs.YtjkmahmoclobmaaGreat.sc
