import Derived.Test.YtjkmahmoclobmaaGreatYScanSame
import Derived.Test.YtjkmahmoclobmaaGreatYScanKitCore
import Derived.Test.YtjkmahmoclobmaaGreatYChainLaid
namespace Go.Proofs.YtjkmahmoclobmaaGreat.sc
set_option linter.unusedSimpArgs false
set_option linter.unusedVariables false
open Go.RowKit mem base disk owns
def krFit (r:Kr):Prop:=¬(r.ks.length:Int)>6∧¬r.fill<0∧¬r.fill>1099511627776∧¬r.skew< -1000∧¬r.skew>1000∧¬r.up< -1000∧¬r.up>1000
end Go.Proofs.YtjkmahmoclobmaaGreat.sc
namespace Go.Proofs.YtjkmahmoclobmaaGreat.sc
set_option linter.unusedSimpArgs false
set_option linter.unusedVariables false
open Go.RowKit mem base disk owns
def Few14 (ts:List Pt):Prop:=(∀ t∈ts,t.rs.length≤4∧∀ r∈t.rs,krFit r)∧ts.length≤8
set_option maxRecDepth 100000 in
set_option maxHeartbeats 4000000 in
theorem cfew_any (ts:List Pt)(A:Option Addr)(n c:Nat)(xs:List Value)(w:World)(hn:ts.length=n)(hb:n≤9223372036854775807)(hv:Vals w [] A xs)(hk:PtIn w [] ts xs):
  Calls Tryz.prog 28 #[.slice A n c] w fun e w'=>((Few14 ts∧e= .returned (.bool true))∨(¬Few14 ts∧e= .returned (.bool false)))∧Kept [] w w':=by
 have HN:=hide hn;have HV:=hide hv;have HK:=hide hk;clear hn hv hk;go_enter Tryz.func28,Tryz.ntmps28;go_wp2
 go_loopw [3,4,5] (fun i _ _ wr=>∃ j:Nat,j≤n∧i= .int .i64 j∧Hid (∀ t∈ts.take j,t.rs.length≤4∧∀ r∈t.rs,krFit r)∧Hid (Kept [] w wr)) (fun i _ _ wr=>n-(intOf i).toNat)
 case atStart=>exact⟨0,Nat.zero_le _,rfl,hide (by simp),hide (Kept.refl _ _)⟩
 case round=>
  obtain⟨j,hj,rfl,HF,HKR⟩:=hrel
  by_cases hlt:j<n
  ·obtain⟨t,ht⟩:∃ x,ts[j]? = some x:=⟨_,List.getElem?_eq_getElem (by rw[HN.out];exact hlt)⟩;obtain⟨Ar,cr,vs,hvr,hkr,i0,_,_⟩:=HK.out.at_ ht;rw[Nat.mul_comm 3 j]at i0;obtain⟨ad,rfl,g0⟩:=vals_at HV.out i0;have HG0:=hide g0;have g1:=HKR.out.cell g0 (by simp);have HVR:=hide hvr;have HKK:=hide hkr;have HT:=hide ht;have HNF:=hide (show ¬(t.rs.length≤4∧∀ r∈t.rs,krFit r)→¬Few14 ts from fun h hf=>h (hf.1 t (List.mem_of_getElem? ht)));obtain⟨m,hm⟩:∃ m,t.rs.length=m:=⟨_,rfl⟩;rw[hm]at g1 HG0;have HM:=hide hm;have hjw:IntKind.i64.wrap ((j:Int)+1)=(j:Int)+1:=IntWalk.i64_in _ (by omega);clear ht hvr hkr i0 g0 hm
   by_cases h4:(m:Int)>4
   ·have t4:decide ((m:Int)>4)=true:=decide_eq_true h4;have HX:=hide (HNF.out (fun h=>by have h1:=h.1;have h2:=HM.out;omega));clear h4;go_wp2;go_ret;exact⟨.inr ⟨HX.out,rfl⟩,HKR.out⟩
   have t4:decide ((m:Int)>4)=false:=decide_eq_false h4
   have hm4:m≤4:=by omega
   clear h4;go_wp2;clear g1
   go_loopw [4,5] (fun i _ wr=>∃ k:Nat,k≤m∧i= .int .i64 k∧Hid (∀ r∈t.rs.take k,krFit r)∧Hid (Kept [] w wr)) (fun i _ wr=>m-(intOf i).toNat)
   case atStart=>exact⟨0,Nat.zero_le _,rfl,hide (by simp),HKR⟩
   case round=>
    clear HKR;obtain⟨k,hk,rfl,HF2,HKR⟩:=hrel;have g1:=HKR.out.cell HG0.out (by simp)
    by_cases hlk:k<m
    ·obtain⟨r,hr⟩:∃ x,t.rs[k]? = some x:=⟨_,List.getElem?_eq_getElem (by rw[HM.out];exact hlk)⟩;obtain⟨L,cc,_,j0,j1,j2,j3,j4⟩:=HKK.out.at_ hr;rw[Nat.mul_comm 5 k]at j0 j1 j2 j3 j4;obtain⟨ar,rfl,f0⟩:=vals_at HVR.out j0
     have K1:∀ (i:Nat) (v:Value),vs[i]? = some v→wr.cell? (ar.add i)=some v:=fun i v hi=>by obtain⟨a',e,g⟩:=vals_at HVR.out hi;cases e;exact HKR.out.cell g (by simp)
     have f00:=HKR.out.cell f0 (by simp);have f1:=add_cell (K1 _ _ j1);have f2:=add_cell (K1 _ _ j2);have f3:=add_cell (K1 _ _ j3);have f4:=add_cell (K1 _ _ j4);have HR:=hide hr;have HNK:=hide (show ¬krFit r→¬Few14 ts from fun h=>HNF.out (fun hf=>h (hf.2 r (List.mem_of_getElem? hr))));have hkw:IntKind.i64.wrap ((k:Int)+1)=(k:Int)+1:=IntWalk.i64_in _ (by omega);obtain⟨g5,hg5⟩:∃ y,wr.heap.size=y:=⟨_,rfl⟩;obtain⟨w1,hw1⟩:∃ y,wr.alloc (.cells #[.slice L r.ks.length cc,.int .i64 r.fill,.int .i64 r.skew,.int .i64 r.twist,.int .i64 r.up] 117)=y:=⟨_,rfl⟩
     have k1:Kept [] wr w1:=by rw[←hw1];exact(Kept.refl [] wr).alloc _
     have m5:Blk w1 g5 117 #[.slice L r.ks.length cc,.int .i64 r.fill,.int .i64 r.skew,.int .i64 r.twist,.int .i64 r.up]:=by rw[←hw1,←hg5];exact Blk.new wr _ _
     obtain⟨x0,x1,x2,x3,x4⟩:w1.cell? ⟨g5,0,none⟩=some (.slice L r.ks.length cc)∧w1.cell? ⟨g5,1,none⟩=some (.int .i64 r.fill)∧w1.cell? ⟨g5,2,none⟩=some (.int .i64 r.skew)∧w1.cell? ⟨g5,3,none⟩=some (.int .i64 r.twist)∧w1.cell? ⟨g5,4,none⟩=some (.int .i64 r.up):=⟨m5.cell 0,m5.cell 1,m5.cell 2,m5.cell 3,m5.cell 4⟩;have HKN:=hide (HKR.out.trans k1 (by simp));clear hr j0 j1 j2 j3 j4 f0 K1 k1 m5
     by_cases h0:(r.ks.length:Int)>6
     ·have t0:decide ((r.ks.length:Int)>6)=true:=decide_eq_true h0;have HX:=hide (HNK.out (fun h=>h.1 h0));clear h0;go_wp2;go_ret;exact⟨.inr ⟨HX.out,rfl⟩,HKN.out⟩
     have t0:decide ((r.ks.length:Int)>6)=false:=decide_eq_false h0
     by_cases h1:r.fill<0
     ·have t1:decide (r.fill<0)=true:=decide_eq_true h1;have HX:=hide (HNK.out (fun h=>h.2.1 h1));clear h0 h1;go_wp2;go_ret;exact⟨.inr ⟨HX.out,rfl⟩,HKN.out⟩
     have t1:decide (r.fill<0)=false:=decide_eq_false h1
     by_cases h2:r.fill>1099511627776
     ·have t2:decide (r.fill>1099511627776)=true:=decide_eq_true h2;have HX:=hide (HNK.out (fun h=>h.2.2.1 h2));clear h0 h1 h2;go_wp2;go_ret;exact⟨.inr ⟨HX.out,rfl⟩,HKN.out⟩
     have t2:decide (r.fill>1099511627776)=false:=decide_eq_false h2
     by_cases h3:r.skew< -1000
     ·have t3:decide (r.skew< -1000)=true:=decide_eq_true h3;have HX:=hide (HNK.out (fun h=>h.2.2.2.1 h3));clear h0 h1 h2 h3;go_wp2;go_ret;exact⟨.inr ⟨HX.out,rfl⟩,HKN.out⟩
     have t3:decide (r.skew< -1000)=false:=decide_eq_false h3
     by_cases h4:r.skew>1000
     ·have t4:decide (r.skew>1000)=true:=decide_eq_true h4;have HX:=hide (HNK.out (fun h=>h.2.2.2.2.1 h4));clear h0 h1 h2 h3 h4;go_wp2;go_ret;exact⟨.inr ⟨HX.out,rfl⟩,HKN.out⟩
     have t4:decide (r.skew>1000)=false:=decide_eq_false h4
     by_cases h5:r.up< -1000
     ·have t5:decide (r.up< -1000)=true:=decide_eq_true h5;have HX:=hide (HNK.out (fun h=>h.2.2.2.2.2.1 h5));clear h0 h1 h2 h3 h4 h5;go_wp2;go_ret;exact⟨.inr ⟨HX.out,rfl⟩,HKN.out⟩
     have t5:decide (r.up< -1000)=false:=decide_eq_false h5
     by_cases h6:r.up>1000
     ·have t6:decide (r.up>1000)=true:=decide_eq_true h6;have HX:=hide (HNK.out (fun h=>h.2.2.2.2.2.2 h6));clear h0 h1 h2 h3 h4 h5 h6;go_wp2;go_ret;exact⟨.inr ⟨HX.out,rfl⟩,HKN.out⟩
     have t6:decide (r.up>1000)=false:=decide_eq_false h6
     have HFN:Hid (∀ x∈t.rs.take (k+1),krFit x):=hide (by
      intro x hx;rw[List.take_add_one,HR.out]at hx
      rcases List.mem_append.1 hx with hx|hx
      ·exact HF2.out x hx
      ·simp at hx;subst hx
       exact⟨h0,h1,h2,h3,h4,h5,h6⟩)
     clear h0 h1 h2 h3 h4 h5 h6;go_wp2;go_roundw
     case rel=>exact⟨k+1,by omega,by go_num,HFN,HKN⟩
     case measure=>simp [intOf];omega
    ·obtain rfl:k=m:=by omega
     have HFN:Hid (∀ x∈ts.take (j+1),x.rs.length≤4∧∀ r∈x.rs,krFit r):=hide (by
      intro x hx;rw[List.take_add_one,HT.out]at hx
      rcases List.mem_append.1 hx with hx|hx
      ·exact HF.out x hx
      ·simp at hx;subst hx;refine⟨by rw[HM.out];exact hm4,?_⟩
       have:=HF2.out
       rwa [List.take_of_length_le (by rw[HM.out];omega)]at this)
     go_wp2;go_roundw
     case rel=>exact⟨j+1,by omega,by go_num,HFN,HKR⟩
     case measure=>simp [intOf];omega
  ·obtain rfl:j=n:=by omega
   have HALL:=hide (show ∀ t∈ts,t.rs.length≤4∧∀ r∈t.rs,krFit r by have:=HF.out;rwa [List.take_of_length_le (by rw[HN.out];omega)]at this)
   by_cases h8:(j:Int)≤8
   ·have t:=decide_eq_true h8;have HX:=hide (show Few14 ts from⟨HALL.out,by have:=HN.out;omega⟩);clear h8;go_wp2;go_ret;exact⟨.inl ⟨HX.out,rfl⟩,HKR.out⟩
   ·have t:=decide_eq_false h8;have HX:=hide (show ¬Few14 ts from fun h=>h8 (by have h1:=h.2;have h2:=HN.out;omega));clear h8;go_wp2;go_ret;exact⟨.inr ⟨HX.out,rfl⟩,HKR.out⟩
end Go.Proofs.YtjkmahmoclobmaaGreat.sc
