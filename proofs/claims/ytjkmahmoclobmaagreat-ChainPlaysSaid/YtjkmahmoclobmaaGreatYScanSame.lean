import Derived.Test.YtjkmahmoclobmaaGreatYItemCore
import Derived.StillTailTactics
import Derived.Laws.StructEq
import Derived.Test.YtjkmahmoclobmaaGreatYRecordCore
import Derived.Test.YtjkmahmoclobmaaGreatYRefCore
import Derived.Test.YtjkmahmoclobmaaGreatYHeld
import Derived.Test.YtjkmahmoclobmaaGreatYScanRScan
namespace Go.Proofs.YtjkmahmoclobmaaGreat.item
open Go.RowKit mem base
theorem neq_item (x y:It)(W:World):(binOp .neq 84 (.agg #[.int .i64 x.k,.int .i64 x.b,.int .i64 x.c,.int .i64 x.v]) (.agg #[.int .i64 y.k,.int .i64 y.b,.int .i64 y.c,.int .i64 y.v])).run Tryz.prog W= .ok (.bool (!decide (x=y))) W:=by
 rw[run_neq_struct,show(10000:Nat)=9999+1 from rfl,run_equalIn_agg W 9999 _ _ _ (by kernel_rfl) (by kernel_rfl)];obtain⟨a,b,c,d⟩:=x;obtain⟨a',b',c',d'⟩:=y;have u3:=Tryz.underlying3;simp only[Program.fieldsOf,Tryz.underlying84];go_simp
 by_cases h1:a=a'<;>by_cases h2:b=b'<;>by_cases h3:c=c'<;>by_cases h4:d=d'<;>simp [h1,h2,h3,h4]

set_option maxRecDepth 100000 in
theorem items_any (A1 A2:Option Addr)(n1 n2 c1 c2:Nat)(xs ys:List It)(w:World)(hn1:xs.length=n1)(hn2:ys.length=n2)(h1:Items w [] A1 xs)(h2:Items w [] A2 ys)(hm:n1≤140737488355328):
  Calls Tryz.prog 57 #[.slice A1 n1 c1,.slice A2 n2 c2] w fun e w'=>e= .returned (.bool (decide (xs=ys)))∧Kept [] w w':=by
 have HN1:=hide hn1;have HN2:=hide hn2;have H1:=hide h1;have H2:=hide h2;clear hn1 hn2 h1 h2
 by_cases hl:n1=n2
 ·subst hl;go_enter Tryz.func57,Tryz.ntmps57;go_wp2
  go_loopw [5] (fun i wr=>∃ j:Nat,j≤n1∧i= .int .i64 j∧Hid (xs.take j=ys.take j)∧∃ d,wr=w.drewN d) (fun i wr=>n1-(intOf i).toNat)
  case atStart=>exact⟨0,Nat.zero_le _,rfl,hide rfl,0,rfl⟩
  case round=>
   obtain⟨j,hj,rfl,heq,d,rfl⟩:=hrel
   by_cases hlt:j<n1
   ·obtain⟨x,hx⟩:∃ x,xs[j]? = some x:=⟨_,List.getElem?_eq_getElem (by rw[HN1.out];exact hlt)⟩;obtain⟨y,hy⟩:∃ y,ys[j]? = some y:=⟨_,List.getElem?_eq_getElem (by rw[HN2.out];exact hlt)⟩;obtain⟨ad1,rfl,_,a0,a1,a2,a3⟩:=H1.out.at_ hx;obtain⟨ad2,rfl,_,b0,b1,b2,b3⟩:=H2.out.at_ hy;have HX:=hide hx;have HY:=hide hy;clear hx hy;have hne:=neq_item x y
    by_cases hxy:x=y
    ·subst hxy;rw[show(!decide (x=x))=false by simp]at hne;have HTK:Hid (xs.take (j+1)=ys.take (j+1)):=hide (by rw[List.take_add_one,List.take_add_one,HX.out,HY.out,heq.out]);go_wp2
     go_quiet (fail)
     go_wp2;go_roundw
     case rel=>exact⟨j+1,by omega,by go_num,HTK,_,rfl⟩
     case measure=>simp [intOf];omega
    ·rw[show(!decide (x=y))=true by simp [hxy]]at hne
     have HNEQ:Hid (decide (xs=ys)=false):=hide (decide_eq_false (fun e=>hxy (by
      have a:=HX.out;have b:=HY.out;rw[e,b]at a;injection a with a
      exact a.symm)))
     clear hxy;go_wp2
     go_quiet (fail)
     go_wp2;go_ret;exact⟨by rw[HNEQ.out];rfl,((Kept.refl [] w).drewN _).drewN _⟩
   ·obtain rfl:j=n1:=by omega
    have HE:Hid (decide (xs=ys)=true):=hide (decide_eq_true (by
     have:=heq.out
     rw[List.take_of_length_le (by rw[HN1.out];exact Nat.le_refl _),List.take_of_length_le (by rw[HN2.out];exact Nat.le_refl _)]at this
     exact this))
    go_wp2;go_ret;exact⟨by rw[HE.out];rfl,(Kept.refl [] w).drewN _⟩
 ·have hl1:((n1:Int) != (n2:Int))=true:=by rw[bne_iff_ne];omega
  have HE:Hid (decide (xs=ys)=false):=hide (decide_eq_false (fun e=>hl (by rw[←HN1.out,←HN2.out,e])));clear hl;go_enter Tryz.func57,Tryz.ntmps57;go_wp2;go_ret;exact⟨by rw[HE.out];rfl,Kept.refl _ _⟩
end Go.Proofs.YtjkmahmoclobmaaGreat.item
set_option maxRecDepth 100000
set_option maxHeartbeats 2000000
namespace Go.Proofs.YtjkmahmoclobmaaGreat.record
open Go.RowKit mem base row rowBack fill crc crcMath super item
theorem blheld {w0 W W':World}{p q:Addr}{u v:Value}(h:Kept [] w0 W∧W.cell? p=some u∧W.cell? q=some v)(hk:Kept [] W W'):Kept [] w0 W'∧W'.cell? p=some u∧W'.cell? q=some v:=
 ⟨h.1.trans hk (by simp),hk.cell h.2.1 (by simp),hk.cell h.2.2 (by simp)⟩
theorem blocks_any (A1 A2:Option Addr)(n1 n2 c1 c2:Nat)(xs ys:List (List UInt8))(w:World)(hn1:xs.length=n1)(hn2:ys.length=n2)(h1:Parts w A1 xs)(h2:Parts w A2 ys)(hm:n1≤140737488355328):
  Calls Tryz.prog 58 #[.slice A1 n1 c1,.slice A2 n2 c2] w fun e w'=>e= .returned (.bool (decide (xs=ys)))∧Kept [] w w':=by
 have HN1:=hide hn1;have HN2:=hide hn2;have H1:=hide h1;have H2:=hide h2;clear hn1 hn2 h1 h2
 by_cases hl:n1=n2
 ·subst hl;go_enter Tryz.func58,Tryz.ntmps58;go_wp2
  go_loopw [5] (fun i wr=>∃ j:Nat,j≤n1∧i= .int .i64 j∧Hid (xs.take j=ys.take j)∧Hid (Kept [] w wr)) (fun i wr=>n1-(intOf i).toNat)
  case atStart=>exact⟨0,Nat.zero_le _,rfl,hide rfl,hide (Kept.refl _ _)⟩
  case round=>
   obtain⟨j,hj,rfl,heq,HK⟩:=hrel
   by_cases hlt:j<n1
   ·obtain⟨x,hx⟩:∃ x,xs[j]? = some x:=⟨_,List.getElem?_eq_getElem (by rw[HN1.out];exact hlt)⟩;obtain⟨y,hy⟩:∃ y,ys[j]? = some y:=⟨_,List.getElem?_eq_getElem (by rw[HN2.out];exact hlt)⟩;obtain⟨ad1,B1,d1,rfl,a0,m0,v0⟩:=(H1.out.kept HK.out).at_ j _ hx;obtain⟨ad2,B2,d2,rfl,b0,m1,v1⟩:=(H2.out.kept HK.out).at_ j _ hy;have HX:=hide hx;have HY:=hide hy;have HV0:=hide v0;have HV1:=hide v1;have HM0:=hide m0;obtain⟨l1,hl1⟩:∃ l,x.length=l:=⟨_,rfl⟩;obtain⟨l2,hl2⟩:∃ l,y.length=l:=⟨_,rfl⟩;rw[hl1]at a0 HM0;rw[hl2]at b0;have HL1:=hide hl1;have HL2:=hide hl2;clear hx hy v0 v1 m0 m1 hl1 hl2;obtain⟨bq,hbq⟩:∃ bq,decide (x=y)=bq:=⟨_,rfl⟩;have HBQ:=hide hbq;clear hbq;go_wp2
    -- REGION blocks
    refine wp_region_noPanic ?_;refine wp_region_held_drew (S:=fun W=>Kept [] wr W∧W.cell? (ad1.add j)=some (.slice B1 l1 d1)∧W.cell? (ad2.add j)=some (.slice B2 l2 d2)) (by kernel_rfl) (by exact⟨(Kept.refl [] wr).drew,a0,b0⟩) (fun hHeld=> ?_);refine tK 0 17 rfl ?_;refine tK 1 18 rfl ?_;refine tK 2 19 rfl ?_;refine tK 3 20 rfl ?_;refine tK 4 21 rfl ?_;refine tK 5 22 rfl ?_;refine tK 6 23 rfl ?_;refine tK 7 24 rfl ?_;refine hO 8 (some 25) rfl fun K hK=> ?_;go_simp;refine(base.bytes_any B1 B2 l1 l2 d1 d2 x y _ HL1.out HL2.out (HV0.out.kept hHeld.1 (by simp)) (HV1.out.kept hHeld.1 (by simp)) HM0.out).mono ?_;rintro e w2 ⟨rfl,dd,hw2⟩;have hkw:Kept [] _ w2:=hw2▸((Kept.refl [] _).drewN dd);clear hw2;rw[HBQ.out];refine hK.out _ _ (by exact blheld hHeld hkw) (fun hHeld=>tS ?_);clear hK K;refine tK 9 26 rfl ?_;refine wpAnyH_done (by kernel_rfl) ?_ _;refine NoPanic.normal ?_
    -- END
    have HK2:=hide (HK.out.trans hHeld.1 (by simp));cases bq
    ·have hxy:x≠y:=of_decide_eq_false HBQ.out
     have HNEQ:Hid (decide (xs=ys)=false):=hide (decide_eq_false (fun e=>hxy (by
      have a:=HX.out;have b:=HY.out;rw[e,b]at a;injection a with a
      exact a.symm)))
     clear hxy hHeld;go_wp2;go_ret;exact⟨by rw[HNEQ.out];rfl,HK2.out⟩
    ·have hxy:x=y:=of_decide_eq_true HBQ.out;have HTK:Hid (xs.take (j+1)=ys.take (j+1)):=hide (by rw[List.take_add_one,List.take_add_one,HX.out,HY.out,heq.out,hxy]);clear hxy hHeld;go_wp2;go_roundw
     case rel=>exact⟨j+1,by omega,by go_num,HTK,HK2⟩
     case measure=>simp [intOf];omega
   ·obtain rfl:j=n1:=by omega
    have HE:Hid (decide (xs=ys)=true):=hide (decide_eq_true (by
     have:=heq.out
     rw[List.take_of_length_le (by rw[HN1.out];exact Nat.le_refl _),List.take_of_length_le (by rw[HN2.out];exact Nat.le_refl _)]at this
     exact this))
    go_wp2;go_ret;exact⟨by rw[HE.out];rfl,HK.out⟩
 ·have hl1:((n1:Int) != (n2:Int))=true:=by rw[bne_iff_ne];omega
  have HE:Hid (decide (xs=ys)=false):=hide (decide_eq_false (fun e=>hl (by rw[←HN1.out,←HN2.out,e])));clear hl;go_enter Tryz.func58,Tryz.ntmps58;go_wp2;go_ret;exact⟨by rw[HE.out];rfl,Kept.refl _ _⟩

theorem same_iff (R T:Rc):R=T↔R.m=T.m∧R.l=T.l∧R.p=T.p∧R.its=T.its∧R.bks=T.bks:=by
 obtain⟨a,b,c,d,e⟩:=R;obtain⟨a',b',c',d',e'⟩:=T;simp only[Rc.mk.injEq]

theorem record_any (R T:Rc)(L1 A1 L2 A2:Option Addr)(n1 c1 k1 d1 n2 c2 k2 d2:Nat)(w:World)(h1:RcAt w L1 n1 A1 k1 R)(h2:RcAt w L2 n2 A2 k2 T)(hn:n1≤140737488355328)(hk:k1≤140737488355328):
  Calls Tryz.prog 83 #[.agg #[.int .i64 R.m,.int .i64 R.l,.int .i64 R.p,.slice L1 n1 c1,.slice A1 k1 d1],.agg #[.int .i64 T.m,.int .i64 T.l,.int .i64 T.p,.slice L2 n2 c2,.slice A2 k2 d2]] w fun e w'=>
   e= .returned (.bool (decide (R=T)))∧Kept [] w w':=by
 have ka:=(Kept.refl [] w).alloc (.cells #[.int .i64 R.m,.int .i64 R.l,.int .i64 R.p,.slice L1 n1 c1,.slice A1 k1 d1] 111);have ba:=Blk.new w 111 #[.int .i64 R.m,.int .i64 R.l,.int .i64 R.p,.slice L1 n1 c1,.slice A1 k1 d1];obtain⟨w1,hw1⟩:∃ w1,w.alloc (.cells #[.int .i64 R.m,.int .i64 R.l,.int .i64 R.p,.slice L1 n1 c1,.slice A1 k1 d1] 111)=w1:=⟨_,rfl⟩;obtain⟨g,hg⟩:∃ g,w.heap.size=g:=⟨_,rfl⟩;rw[hw1]at ka ba;rw[hg]at ba;have kb:=ka.alloc (.cells #[.int .i64 T.m,.int .i64 T.l,.int .i64 T.p,.slice L2 n2 c2,.slice A2 k2 d2] 111);have bb:=Blk.new w1 111 #[.int .i64 T.m,.int .i64 T.l,.int .i64 T.p,.slice L2 n2 c2,.slice A2 k2 d2];have ba2:=ba.alloc (.cells #[.int .i64 T.m,.int .i64 T.l,.int .i64 T.p,.slice L2 n2 c2,.slice A2 k2 d2] 111);obtain⟨w2,hw2⟩:∃ w2,w1.alloc (.cells #[.int .i64 T.m,.int .i64 T.l,.int .i64 T.p,.slice L2 n2 c2,.slice A2 k2 d2] 111)=w2:=⟨_,rfl⟩;obtain⟨s,hs⟩:∃ s,w1.heap.size=s:=⟨_,rfl⟩;rw[hw2]at kb bb ba2;rw[hs]at bb;obtain⟨e0,e1,e2,e3,e4⟩:=cell5 ba2;obtain⟨f0,f1,f2,f3,f4⟩:=cell5 bb;have HR:=hide (h1.kept kb);have HT:=hide (h2.kept kb);have HB:=hide ba2;have HS:=hide bb;have HK2:=hide kb;have HSI:=hide (same_iff R T);have HN:=hide hn;have HKK:=hide hk;clear h1 h2 ka ba kb bb ba2 hn hk
 by_cases q0:R.m=T.m
 ·have x0:(R.m==T.m)=true:=beq_iff_eq.2 q0
  by_cases q1:R.l=T.l
  ·have x1:(R.l==T.l)=true:=beq_iff_eq.2 q1
   by_cases q2:R.p=T.p
   ·have x2:(R.p==T.p)=true:=beq_iff_eq.2 q2;have HQ:=hide (show R.m=T.m∧R.l=T.l∧R.p=T.p from⟨q0,q1,q2⟩);clear q0 q1 q2;go_enter Tryz.func83,Tryz.ntmps83;go_wp2_with fail;refine(items_any L1 L2 n1 n2 c1 c2 R.its T.its _ HR.out.hn HT.out.hn HR.out.its HT.out.its HN.out).mono ?_;rintro e w3 ⟨rfl,hk3⟩;have HK3:=hide (HK2.out.trans hk3 (by simp));have HR3:=hide (HR.out.kept hk3);have HT3:=hide (HT.out.kept hk3);have g4:=(hk3.blk HB.out (by simp)).cell 4;have h4:=(hk3.blk HS.out (by simp)).cell 4;clear hk3
    by_cases q3:R.its=T.its
    ·rw[decide_eq_true q3];go_wp2_with fail;refine(blocks_any A1 A2 k1 k2 d1 d2 R.bks T.bks _ HR3.out.hk HT3.out.hk HR3.out.bks HT3.out.bks HKK.out).mono ?_;rintro e w4 ⟨rfl,hk4⟩;have HK4:=hide (HK3.out.trans hk4 (by simp));clear hk4;have HD:Hid (decide (R.bks=T.bks)=decide (R=T)):=hide (decide_eq_decide.2 ⟨fun h=>HSI.out.2 ⟨HQ.out.1,HQ.out.2.1,HQ.out.2.2,q3,h⟩,fun h=>(HSI.out.1 h).2.2.2.2⟩);rw[HD.out];clear q3;go_wp2;go_ret;exact⟨rfl,HK4.out⟩
    ·rw[decide_eq_false q3];have HD:Hid (decide (R=T)=false):=hide (decide_eq_false (fun h=>q3 (HSI.out.1 h).2.2.2.1));clear q3;go_wp2;go_ret;exact⟨by rw[HD.out];rfl,HK3.out⟩
   ·have x2:(R.p==T.p)=false:=beq_eq_false_iff_ne.2 q2;have HD:Hid (decide (R=T)=false):=hide (decide_eq_false (fun h=>q2 (HSI.out.1 h).2.2.1));rw[HD.out];clear q0 q1 q2;go_enter Tryz.func83,Tryz.ntmps83;go_wp2;go_ret;exact⟨rfl,HK2.out⟩
  ·have x1:(R.l==T.l)=false:=beq_eq_false_iff_ne.2 q1;have HD:Hid (decide (R=T)=false):=hide (decide_eq_false (fun h=>q1 (HSI.out.1 h).2.1));rw[HD.out];clear q0 q1;go_enter Tryz.func83,Tryz.ntmps83;go_wp2;go_ret;exact⟨rfl,HK2.out⟩
 ·have x0:(R.m==T.m)=false:=beq_eq_false_iff_ne.2 q0;have HD:Hid (decide (R=T)=false):=hide (decide_eq_false (fun h=>q0 (HSI.out.1 h).1));rw[HD.out];clear q0;go_enter Tryz.func83,Tryz.ntmps83;go_wp2;go_ret;exact⟨rfl,HK2.out⟩
end Go.Proofs.YtjkmahmoclobmaaGreat.record
namespace Go.Proofs.YtjkmahmoclobmaaGreat.sc
set_option linter.unusedSimpArgs false
set_option linter.unusedVariables false
open Go.RowKit mem base disk owns
open record (Rc RcIn RcAt put5 put5_kept cell5)
open item (It Items)
theorem FndX.at_ {w:World}{S:List Nat}:∀ {l:List (Ps×Rc)} {xs:List Value} {j:Nat} {pk:Ps} {R:Rc},FndX w S l xs→l[j]? = some (pk,R)→∃ L m c P k d,RcIn w S L m P k R∧xs[j*10+1]? = some (.int .i64 pk.o)∧xs[j*10+5]? = some (.int .i64 R.m)∧xs[j*10+6]? = some (.int .i64 R.l)∧xs[j*10+7]? = some (.int .i64 R.p)∧xs[j*10+8]? = some (.slice L m c)∧xs[j*10+9]? = some (.slice P k d)
 | [],_,j,_,_,_,hj=>by simp at hj
 | (pk',R')::l,_,0,pk,R,⟨L,m,c,P,k,d,rest,h1,h2,h3⟩,hj=>by
  simp at hj;obtain⟨rfl,rfl⟩:=hj;subst h1;exact⟨L,m,c,P,k,d,h2,rfl,rfl,rfl,rfl,rfl,rfl⟩
 | (pk',R')::l,_,j+1,pk,R,⟨L,m,c,P,k,d,rest,h1,h2,h3⟩,hj=>by
  subst h1;obtain⟨L',m',c',P',k',d',i0,i1,i2,i3,i4,i5,i6⟩:=FndX.at_ h3 (by simpa using hj)
  have e:(j+1)*10=j*10+10:=by omega
  rw[e];exact⟨L',m',c',P',k',d',i0,i1,i2,i3,i4,i5,i6⟩
theorem vals_at {w:World}{S:List Nat}{A:Option Addr}{xs:List Value}(h:Vals w S A xs){i:Nat}{v:Value}(hi:xs[i]? = some v):∃ ad,A=some ad∧w.cell? (ad.add i)=some v:=by
 obtain⟨ad,h1,_,h3⟩:=h i v hi;exact⟨ad,h1,h3⟩
theorem add_cell {W:World}{ad:Addr}{i t:Nat}{v:Value}(h:W.cell? (ad.add (i+t))=some v)(ht:t≠0:=by omega):W.cell? ⟨(ad.add i).block,(ad.add i).off+t,none⟩=some v:=by
 have e:ad.add (i+t)=⟨(ad.add i).block,(ad.add i).off+t,none⟩:=by
  unfold Addr.add
  by_cases hi:i=0<;>simp [hi,ht,Nat.add_assoc]
 rw[←e];exact h
end Go.Proofs.YtjkmahmoclobmaaGreat.sc
