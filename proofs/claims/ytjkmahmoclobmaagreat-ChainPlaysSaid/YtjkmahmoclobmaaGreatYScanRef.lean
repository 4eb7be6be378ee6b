import Derived.Test.YtjkmahmoclobmaaGreatYGeomOps
import Derived.Test.YtjkmahmoclobmaaGreatYAlike
import Derived.Test.YtjkmahmoclobmaaGreatYScanNextCore
import Derived.Test.YtjkmahmoclobmaaGreatYRDiskCore
import Derived.Test.YtjkmahmoclobmaaGreatYRecordROf
import Derived.Test.YtjkmahmoclobmaaGreatYOwns
set_option maxHeartbeats 1000000
namespace Go.Proofs.YtjkmahmoclobmaaGreat.geom
open Go.RowKit mem base
set_option linter.unusedVariables false
theorem up_eq (n d x:Int)(w:World)(hn:0≤n)(hn2:n≤1000000)(hd:1≤d)(hd2:d≤1000000)(hx:(n+d-1)/d=x):
  Calls Tryz.prog 139 #[.int .i64 n,.int .i64 d] w fun e w'=>e= .returned (.int .i64 x)∧w=w':=by
 subst hx;have h0:(d==0)=false:=beq_eq_false_iff_ne.2 (by omega);have h1:Hid ((n+d-1).tdiv d=(n+d-1)/d):=hide (Int.tdiv_eq_ediv_of_nonneg (by omega))
 have h2:0≤(n+d-1).tdiv d:=by rw[h1.out];exact Int.ediv_nonneg (by omega) (by omega)
 have h3:(n+d-1).tdiv d≤n+d-1:=by rw[h1.out];exact Int.ediv_le_self _ (by omega)
 go_enter Tryz.func139,Tryz.ntmps139;go_wp2;go_ret;exact⟨congrArg (fun q=>Ending.returned (.int .i64 q)) h1.out,rfl⟩
structure Rf (b s l r q:Int):Prop where
 ok:Ok b s l
 hr:r=(106+5*s)/64
 hq:q=(b+14)/15
theorem Rf.bounds {b s l r q:Int}(h:Rf b s l r q):2≤r∧r≤4∧1≤q∧q≤5:=bounds_of h.ok h.hr h.hq
theorem GAt.rf {w:World}{p:Nat}{b s l r q:Int}(h:GAt w p b s l r q):Rf b s l r q:=⟨h.ok,h.hr,h.hq⟩
theorem rpages (b s l r q:Int)(w:World)(h:Rf b s l r q):
  Calls Tryz.prog 71 #[.agg #[.int .i64 b,.int .i64 s,.int .i64 l]] w fun e w'=>e= .returned (.int .i64 q)∧Kept [] w w':=by
 have hk:=hide ((Kept.refl [] w).alloc (.cells #[.int .i64 b,.int .i64 s,.int .i64 l] 29));have hq:=hide (show(b+15-1)/15=q by rw[h.hq];congr 1;omega);obtain⟨h1,h2,h3⟩:=h.ok;clear h;go_enter Tryz.func71,Tryz.ntmps71;go_wp2_with fail;refine(up_eq b 15 q _ (by omega) (by omega) (by omega) (by omega) hq.out).mono ?_;rintro e w1 ⟨rfl,rfl⟩;go_wp2;go_ret;exact⟨rfl,hk.out⟩
theorem rregionLen (b s l r q:Int)(w:World)(h:Rf b s l r q):
  Calls Tryz.prog 70 #[.agg #[.int .i64 b,.int .i64 s,.int .i64 l]] w fun e w'=>e= .returned (.int .i64 r)∧Kept [] w w':=by
 have hk:=hide ((Kept.refl [] w).alloc (.cells #[.int .i64 b,.int .i64 s,.int .i64 l] 29));have hr:=hide (show(43+5*s+64-1)/64=r by rw[h.hr];congr 1;omega);obtain⟨h1,h2,h3⟩:=h.ok;clear h;go_enter Tryz.func70,Tryz.ntmps70;go_wp2_with fail;refine(up_eq (43+5*s) 64 r _ (by omega) (by omega) (by omega) (by omega) hr.out).mono ?_;rintro e w1 ⟨rfl,rfl⟩;go_wp2;go_ret;exact⟨rfl,hk.out⟩



theorem rsegAt_yes (b s l r q a:Int)(w:World)(h:Rf b s l r q)(hi:0≤a∧a≤s-1):
  Calls Tryz.prog 15 #[.agg #[.int .i64 b,.int .i64 s,.int .i64 l],.int .i64 a] w fun e w'=>e= .returned (.int .i64 (2+2*r+4*q+a*l))∧Kept [] w w':=by
 have hk:=hide ((Kept.refl [] w).alloc (.cells #[.int .i64 b,.int .i64 s,.int .i64 l] 29));have H:=hide h;have hb:=h.bounds;obtain⟨_,hs,hl⟩:=h.ok;have hm:0≤a*l∧a*l≤2048:=mul_le (s:=31) hi.1 (by omega) (by omega) (by omega) (by omega);clear h;have hb0:=Blk.new w 29 #[.int .i64 b,.int .i64 s,.int .i64 l];have c0:(w.alloc (.cells #[.int .i64 b,.int .i64 s,.int .i64 l] 29)).cell? ⟨w.heap.size,0,none⟩=some (.int .i64 b):=hb0.cell 0;have c1:(w.alloc (.cells #[.int .i64 b,.int .i64 s,.int .i64 l] 29)).cell? ⟨w.heap.size,1,none⟩=some (.int .i64 s):=hb0.cell 1;have c2:(w.alloc (.cells #[.int .i64 b,.int .i64 s,.int .i64 l] 29)).cell? ⟨w.heap.size,2,none⟩=some (.int .i64 l):=hb0.cell 2;clear hb0;go_enter Tryz.func15,Tryz.ntmps15;go_wp2_with fail;refine(within_yes a 0 (s-1) _ hi).mono ?_;rintro e w1 ⟨rfl,rfl⟩;generalize hW:w.alloc (.cells #[.int .i64 b,.int .i64 s,.int .i64 l] 29)=w1 at*;go_wp2;generalize w.heap.size=g at*;have g1:IntKind.i64.wrap (2*r)=2*r:=IntWalk.i64_in _ (by omega);have g2:IntKind.i64.wrap (2+2*r)=2+2*r:=IntWalk.i64_in _ (by omega);have g3:IntKind.i64.wrap (4*q)=4*q:=IntWalk.i64_in _ (by omega);have g4:IntKind.i64.wrap (2+2*r+4*q)=2+2*r+4*q:=IntWalk.i64_in _ (by omega);have g5:IntKind.i64.wrap (a*l)=a*l:=IntWalk.i64_in _ (by omega);have g6:IntKind.i64.wrap (2+2*r+4*q+a*l)=2+2*r+4*q+a*l:=IntWalk.i64_in _ (by omega)
 go_region_held3 (fun W=>W.cell? ⟨g,0,none⟩=some (.int .i64 b)∧W.cell? ⟨g,1,none⟩=some (.int .i64 s)∧W.cell? ⟨g,2,none⟩=some (.int .i64 l))
  (first|exact⟨c0,c1,c2⟩|exact⟨d0,d1,d2⟩|exact⟨f0,f1,f2⟩)
  (first
   | (go_at_call 70;refine(rregionLen b s l r q _ H.out).mono ?_;rintro e wr ⟨rfl,hkr⟩;have d0:=hkr.cell (p:=⟨g,0,none⟩) (by first|exact c0|exact f0) (by simp);have d1:=hkr.cell (p:=⟨g,1,none⟩) (by first|exact c1|exact f1) (by simp);have d2:=hkr.cell (p:=⟨g,2,none⟩) (by first|exact c2|exact f2) (by simp))
   | (go_at_call 71;refine(rpages b s l r q _ H.out).mono ?_;rintro e wq ⟨rfl,hkq⟩;have f0:=hkq.cell (p:=⟨g,0,none⟩) (by first|exact c0|exact d0) (by simp);have f1:=hkq.cell (p:=⟨g,1,none⟩) (by first|exact c1|exact d1) (by simp);have f2:=hkq.cell (p:=⟨g,2,none⟩) (by first|exact c2|exact d2) (by simp)))
 all_goals
  go_wp2;go_ret
 exact⟨rfl,(hk.out.drew.trans hkr (by simp)).trans hkq (by simp)⟩
theorem rsegAt_no (b s l r q a:Int)(w:World)(h:Rf b s l r q)(hi:¬(0≤a∧a≤s-1)):
  Calls Tryz.prog 15 #[.agg #[.int .i64 b,.int .i64 s,.int .i64 l],.int .i64 a] w fun e w'=>e= .returned (.int .i64 (-1))∧Kept [] w w':=by
 have hk:=hide ((Kept.refl [] w).alloc (.cells #[.int .i64 b,.int .i64 s,.int .i64 l] 29));obtain⟨_,hs,hl⟩:=h.ok;have HI:=hide hi;clear h hi;go_enter Tryz.func15,Tryz.ntmps15;go_wp2_with fail;refine(within_no a 0 (s-1) _ HI.out).mono ?_;rintro e w1 ⟨rfl,rfl⟩;go_wp2;go_ret;exact⟨rfl,hk.out⟩
theorem rsegAt (b s l r q a:Int)(w:World)(h:Rf b s l r q):
  Calls Tryz.prog 15 #[.agg #[.int .i64 b,.int .i64 s,.int .i64 l],.int .i64 a] w fun e w'=>e= .returned (.int .i64 (segAt s l r q a))∧Kept [] w w':=by
 unfold segAt
 by_cases hi:0≤a∧a≤s-1
 ·rw[if_pos hi];exact rsegAt_yes b s l r q a w h hi
 ·rw[if_neg hi];exact rsegAt_no b s l r q a w h hi
theorem rseg0 (b s l r q:Int)(w:World)(h:Rf b s l r q):
  Calls Tryz.prog 15 #[.agg #[.int .i64 b,.int .i64 s,.int .i64 l],.int .i64 0] w fun e w'=>e= .returned (.int .i64 (2+2*r+4*q))∧Kept [] w w':=by
 refine(rsegAt_yes b s l r q 0 w h ?_).mono fun e w' ⟨he,hk⟩=>⟨by rw[he];simp,hk⟩;obtain⟨_,hs,hl⟩:=h.ok
 omega

theorem rsectors (b s l r q:Int)(w:World)(h:Rf b s l r q):
  Calls Tryz.prog 64 #[.agg #[.int .i64 b,.int .i64 s,.int .i64 l]] w fun e w'=>e= .returned (.int .i64 (2+2*r+4*q+s*l))∧Kept [] w w':=by
 have hk:=hide ((Kept.refl [] w).alloc (.cells #[.int .i64 b,.int .i64 s,.int .i64 l] 29));have H:=hide h;have hb:=h.bounds;have hm:=sl_of h.ok;clear h;have hb0:=Blk.new w 29 #[.int .i64 b,.int .i64 s,.int .i64 l];have c0:(w.alloc (.cells #[.int .i64 b,.int .i64 s,.int .i64 l] 29)).cell? ⟨w.heap.size,0,none⟩=some (.int .i64 b):=hb0.cell 0;have c1:(w.alloc (.cells #[.int .i64 b,.int .i64 s,.int .i64 l] 29)).cell? ⟨w.heap.size,1,none⟩=some (.int .i64 s):=hb0.cell 1;have c2:(w.alloc (.cells #[.int .i64 b,.int .i64 s,.int .i64 l] 29)).cell? ⟨w.heap.size,2,none⟩=some (.int .i64 l):=hb0.cell 2;clear hb0;go_enter Tryz.func64,Tryz.ntmps64;go_wp2;generalize hW:w.alloc (.cells #[.int .i64 b,.int .i64 s,.int .i64 l] 29)=w1 at*;generalize w.heap.size=g at*;have g5:IntKind.i64.wrap (s*l)=s*l:=IntWalk.i64_in _ (by omega);have g6:IntKind.i64.wrap (2+2*r+4*q+s*l)=2+2*r+4*q+s*l:=IntWalk.i64_in _ (by omega)
 go_region_held3 (fun W=>W.cell? ⟨g,0,none⟩=some (.int .i64 b)∧W.cell? ⟨g,1,none⟩=some (.int .i64 s)∧W.cell? ⟨g,2,none⟩=some (.int .i64 l))
  (first|exact⟨c0,c1,c2⟩|exact⟨d0,d1,d2⟩)
  (first
   | (go_at_call 15;refine(rseg0 b s l r q _ H.out).mono ?_;rintro e wr ⟨rfl,hkr⟩;have d0:=hkr.cell (p:=⟨g,0,none⟩) (by exact c0) (by simp);have d1:=hkr.cell (p:=⟨g,1,none⟩) (by exact c1) (by simp);have d2:=hkr.cell (p:=⟨g,2,none⟩) (by exact c2) (by simp)))
 go_wp2;go_ret;exact⟨rfl,hk.out.drew.trans hkr (by simp)⟩




end Go.Proofs.YtjkmahmoclobmaaGreat.geom
namespace Go.Proofs.YtjkmahmoclobmaaGreat.sc
set_option linter.unusedSimpArgs false
open Go.RowKit mem base disk owns
open record (Rc RcIn RcAt put5 put5_kept cell5 rsize_any rof_fars)
open item (It Items)
def nextVal:List It→Int
 | []=> -1
 | i::l=>if i.k=7 then i.v else nextVal l
theorem nextVal_none:∀ (l:List It),(l.any fun i=>decide (i.k=7))=false→nextVal l= -1
 | [],_=>rfl
 | i::l,h=>by
  rw[List.any_cons,Bool.or_eq_false_iff]at h;unfold nextVal;rw[if_neg (of_decide_eq_false h.1)];exact nextVal_none l h.2
theorem nextVal_at:∀ (l:List It) (k:Nat) (i:It),l[k]? = some i→((l.take k).any fun i=>decide (i.k=7))=false→i.k=7→nextVal l=i.v
 | [],k,i,h,_,_=>by simp at h
 | j::l,0,i,h,_,h7=>by
  simp at h;subst h;unfold nextVal;rw[if_pos h7]
 | j::l,k+1,i,h,hn,h7=>by
  rw[List.take_succ_cons,List.any_cons,Bool.or_eq_false_iff]at hn;unfold nextVal;rw[if_neg (of_decide_eq_false hn.1)];exact nextVal_at l k i (by simpa using h) hn.2 h7
theorem next_pos (i:It)(h:i.may=true)(h7:i.k=7):0≤i.v:=by
 rw[item.It.may_iff]at h;unfold item.It.ok at h
 omega
theorem nextVal_may:∀ (l:List It),item.allMay l→decide (0≤nextVal l)=(l.any fun i=>decide (i.k=7))
 | [],_=>rfl
 | i::l,h=>by
  have ih:=nextVal_may l (fun j hj=>h j (by simp [hj]));rw[List.any_cons];unfold nextVal
  by_cases h7:i.k=7
  ·rw[if_pos h7,decide_eq_true h7,Bool.true_or]
   have:=h i (by simp)
   refine decide_eq_true ?_;exact next_pos i this h7
  ·rw[if_neg h7,decide_eq_false h7,Bool.false_or];exact ih

set_option maxRecDepth 100000 in
set_option maxHeartbeats 1000000 in
theorem rnextOf_any (R:Rc)(L P:Option Addr)(n c k d:Nat)(w:World)(hv:Items w [] L R.its)(hl:R.its.length=n)(hn:n≤1000):
  Calls Tryz.prog 82 #[.agg #[.int .i64 R.m,.int .i64 R.l,.int .i64 R.p,.slice L n c,.slice P k d]] w fun e w'=>e= .returned (.int .i64 (nextVal R.its))∧Kept [] w w':=by
 have hk0:=(Kept.refl [] w).alloc (.cells #[.int .i64 R.m,.int .i64 R.l,.int .i64 R.p,.slice L n c,.slice P k d] 111);have HV:=hide (hv.kept hk0 (by simp));have HK0:=hide hk0;have HL:=hide hl;obtain⟨w0,hw0⟩:∃ w0,w.alloc (.cells #[.int .i64 R.m,.int .i64 R.l,.int .i64 R.p,.slice L n c,.slice P k d] 111)=w0:=⟨_,rfl⟩;have hb0:=Blk.new w 111 #[.int .i64 R.m,.int .i64 R.l,.int .i64 R.p,.slice L n c,.slice P k d];rw[hw0]at HV HK0 hb0;obtain⟨g,hg⟩:∃ g,w.heap.size=g:=⟨_,rfl⟩;rw[hg]at hb0;have b3:=hb0.cell 3;clear hv hl hk0 hb0;generalize R.its=its at HV HL ⊢;go_enter Tryz.func82,Tryz.ntmps82;go_wp2
 go_loopw [3] (fun i wr=>∃ j:Nat,j≤n∧i= .int .i64 j∧Hid (((its.take j).any fun i=>decide (i.k=7))=false)∧wr=w0) (fun i wr=>n-(intOf i).toNat)
 case atStart=>exact⟨0,by omega,rfl,hide rfl,rfl⟩
 case round=>
  obtain⟨j,hj,rfl,HM1,rfl⟩:=hrel
  by_cases hlt:j<n
  ·obtain⟨i,hi⟩:∃ i,its[j]? = some i:=⟨_,List.getElem?_eq_getElem (by rw[HL.out];exact hlt)⟩;obtain⟨ad,rfl,_,c0,c1,c2,c3⟩:=HV.out.at_ hi;have HI:=hide hi;clear hi
   by_cases hm:i.k=7
   ·have t7:(i.k==7)=true:=beq_iff_eq.2 hm;have HE:Hid (nextVal its=i.v):=hide (nextVal_at its j i HI.out HM1.out hm);clear hm;go_wp2;go_ret;exact⟨by rw[HE.out];rfl,HK0.out⟩
   ·have t7:(i.k==7)=false:=beq_eq_false_iff_ne.2 hm
    have HM2:Hid (((its.take (j+1)).any fun i=>decide (i.k=7))=false):=hide (by
     rw[List.take_add_one,HI.out,List.any_append,HM1.out]
     simp [hm])
    clear hm;go_wp2;go_roundw
    case rel=>exact⟨j+1,by omega,by go_num,HM2,by trivial⟩
    case measure=>simp [intOf];omega
  ·obtain rfl:j=n:=by omega
   have HE:Hid (nextVal its= -1):=hide (by
    have:=HM1.out
    rw[List.take_of_length_le (by rw[HL.out];exact Nat.le_refl _)]at this
    exact nextVal_none its this)
   go_wp2;go_ret;exact⟨by rw[HE.out];rfl,HK0.out⟩
end Go.Proofs.YtjkmahmoclobmaaGreat.sc
