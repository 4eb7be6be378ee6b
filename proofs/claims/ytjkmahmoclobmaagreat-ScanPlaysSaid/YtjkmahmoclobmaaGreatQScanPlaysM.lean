import Derived.Test.YtjkmahmoclobmaaGreatQScanSame
import Derived.Test.YtjkmahmoclobmaaGreatQScanKitCore
namespace Go.Proofs.YtjkmahmoclobmaaGreat.sc
set_option linter.unusedSimpArgs false
set_option linter.unusedVariables false
open Go.RowKit mem base disk owns
def krFit (r:Kr):Prop:=¬(r.ks.length:Int)>6∧¬r.fill<0∧¬r.fill>1099511627776∧¬r.skew< -1000∧¬r.skew>1000∧¬r.up< -1000∧¬r.up>1000
def Few (rs:List Kr):Prop:=(∀ r∈rs,krFit r)∧rs.length≤12
set_option maxRecDepth 100000 in
set_option maxHeartbeats 4000000 in
theorem few_any (rs:List Kr)(A:Option Addr)(n c:Nat)(vs:List Value)(w:World)(hn:rs.length=n)(hb:n≤9223372036854775807)(hv:Vals w [] A vs)(hk:KrIn w [] rs vs):
  Calls Tryz.prog 8 #[.slice A n c] w fun e w'=>((Few rs∧e= .returned (.bool true))∨(¬Few rs∧e= .returned (.bool false)))∧w=w':=by
 have HN:=hide hn
 have HV:=hide hv
 have HK:=hide hk
 clear hn hv hk
 go_enter Tryz.func8,Tryz.ntmps8
 go_wp2
 go_loopw [3] (fun i wr=>∃ j:Nat,j≤n∧i= .int .i64 j∧Hid (∀ r∈rs.take j,krFit r)∧wr=w) (fun i wr=>n-(intOf i).toNat)
 case atStart=>exact⟨0,Nat.zero_le _,rfl,hide (by simp),rfl⟩
 case round=>
  obtain⟨j,hj,rfl,HF,rfl⟩:=hrel
  by_cases hlt:j<n
  ·obtain⟨r,hr⟩:∃ x,rs[j]? = some x:=⟨_,List.getElem?_eq_getElem (by rw[HN.out];exact hlt)⟩
   obtain⟨L,cc,_,i0,i1,i2,i3,i4⟩:=HK.out.at_ hr
   rw[Nat.mul_comm 5 j]at i0 i1 i2 i3 i4
   obtain⟨ad,rfl,g0⟩:=vals_at HV.out i0
   have K1:∀ (i:Nat) (v:Value),vs[i]? = some v→wr.cell? (ad.add i)=some v:=fun i v hi=>by obtain⟨ad,e,g⟩:=vals_at HV.out hi;cases e;exact g
   have g1:=add_cell (K1 _ _ i1)
   have g2:=add_cell (K1 _ _ i2)
   have g4:=add_cell (K1 _ _ i4)
   have HR:=hide hr
   have HNF:=hide (show ¬krFit r→¬Few rs from fun h hf=>h (hf.1 r (List.mem_of_getElem? hr)))
   have hjw:IntKind.i64.wrap ((j:Int)+1)=(j:Int)+1:=IntWalk.i64_in _ (by omega)
   clear hr i0 i1 i2 i3 i4 K1
   by_cases h0:(r.ks.length:Int)>6
   ·have t0:decide ((r.ks.length:Int)>6)=true:=decide_eq_true h0
    have HX:=hide (HNF.out (fun h=>h.1 h0))
    clear h0
    go_wp2
    go_ret
    exact⟨.inr ⟨HX.out,rfl⟩,rfl⟩
   have t0:decide ((r.ks.length:Int)>6)=false:=decide_eq_false h0
   by_cases h1:r.fill<0
   ·have t1:decide (r.fill<0)=true:=decide_eq_true h1
    have HX:=hide (HNF.out (fun h=>h.2.1 h1))
    clear h0 h1
    go_wp2
    go_ret
    exact⟨.inr ⟨HX.out,rfl⟩,rfl⟩
   have t1:decide (r.fill<0)=false:=decide_eq_false h1
   by_cases h2:r.fill>1099511627776
   ·have t2:decide (r.fill>1099511627776)=true:=decide_eq_true h2
    have HX:=hide (HNF.out (fun h=>h.2.2.1 h2))
    clear h0 h1 h2
    go_wp2
    go_ret
    exact⟨.inr ⟨HX.out,rfl⟩,rfl⟩
   have t2:decide (r.fill>1099511627776)=false:=decide_eq_false h2
   by_cases h3:r.skew< -1000
   ·have t3:decide (r.skew< -1000)=true:=decide_eq_true h3
    have HX:=hide (HNF.out (fun h=>h.2.2.2.1 h3))
    clear h0 h1 h2 h3
    go_wp2
    go_ret
    exact⟨.inr ⟨HX.out,rfl⟩,rfl⟩
   have t3:decide (r.skew< -1000)=false:=decide_eq_false h3
   by_cases h4:r.skew>1000
   ·have t4:decide (r.skew>1000)=true:=decide_eq_true h4
    have HX:=hide (HNF.out (fun h=>h.2.2.2.2.1 h4))
    clear h0 h1 h2 h3 h4
    go_wp2
    go_ret
    exact⟨.inr ⟨HX.out,rfl⟩,rfl⟩
   have t4:decide (r.skew>1000)=false:=decide_eq_false h4
   by_cases h5:r.up< -1000
   ·have t5:decide (r.up< -1000)=true:=decide_eq_true h5
    have HX:=hide (HNF.out (fun h=>h.2.2.2.2.2.1 h5))
    clear h0 h1 h2 h3 h4 h5
    go_wp2
    go_ret
    exact⟨.inr ⟨HX.out,rfl⟩,rfl⟩
   have t5:decide (r.up< -1000)=false:=decide_eq_false h5
   by_cases h6:r.up>1000
   ·have t6:decide (r.up>1000)=true:=decide_eq_true h6
    have HX:=hide (HNF.out (fun h=>h.2.2.2.2.2.2 h6))
    clear h0 h1 h2 h3 h4 h5 h6
    go_wp2
    go_ret
    exact⟨.inr ⟨HX.out,rfl⟩,rfl⟩
   have t6:decide (r.up>1000)=false:=decide_eq_false h6
   have HFN:Hid (∀ x∈rs.take (j+1),krFit x):=hide (by
    intro x hx
    rw[List.take_add_one,HR.out]at hx
    rcases List.mem_append.1 hx with hx|hx
    ·exact HF.out x hx
    ·simp at hx
     subst hx
     exact⟨h0,h1,h2,h3,h4,h5,h6⟩)
   clear h0 h1 h2 h3 h4 h5 h6
   go_wp2
   go_roundw
   case rel=>exact⟨j+1,by omega,by go_num,HFN,by trivial⟩
   case measure=>simp [intOf];omega
  ·obtain rfl:j=n:=by omega
   have HALL:=hide (show ∀ r∈rs,krFit r by have:=HF.out;rwa [List.take_of_length_le (by rw[HN.out];omega)]at this)
   by_cases h12:(j:Int)≤12
   ·have t:=decide_eq_true h12
    have HX:=hide (show Few rs from⟨HALL.out,by have:=HN.out;omega⟩)
    clear h12
    go_wp2
    go_ret
    exact⟨.inl ⟨HX.out,rfl⟩,rfl⟩
   ·have t:=decide_eq_false h12
    have HX:=hide (show ¬Few rs from fun h=>h12 (by have h1:=h.2;have h2:=HN.out;omega))
    clear h12
    go_wp2
    go_ret
    exact⟨.inr ⟨HX.out,rfl⟩,rfl⟩
end Go.Proofs.YtjkmahmoclobmaaGreat.sc
namespace Go.Proofs.YtjkmahmoclobmaaGreat.sc
set_option linter.unusedSimpArgs false
set_option linter.unusedVariables false
open Go.RowKit mem base disk owns
open record (Rc)
theorem recs_ok {D:Dk}(hD:D.ok)(a z:Int):∀ (f:Nat) (p:Ps),(recs D a z f p).1.length≤f∧∀ x∈(recs D a z f p).1,x.2.ok
 | 0,p=>⟨Nat.le_refl _,by simp [recs]⟩
 | f+1,p=>by
  unfold recs
  obtain⟨⟨o,e⟩,ho⟩:∃ y,follow D a z p=y:=⟨_,rfl⟩
  rw[ho]
  cases o with
  | none=>exact⟨Nat.zero_le _,by simp⟩
  | some y=>
   obtain⟨R,sm⟩:=y
   have hR:=(follow_ok hD ho).1
   dsimp only
   by_cases hx:hasNext R=true
   ·rw[if_pos hx]
    exact⟨by simp,fun x hx=>by simp at hx;subst hx;exact hR⟩
   ·rw[if_neg hx]
    obtain⟨h1,h2⟩:=recs_ok hD a z f (behind p R sm)
    refine⟨by simp;omega,fun x hx=> ?_⟩
    rcases List.mem_cons.1 hx with rfl|hx
    ·exact hR
    ·exact h2 x hx
theorem scan_ok {D:Dk}(hD:D.ok){a z:Int}{p:Ps}{hb:Bool}{L:List (Ps×Rc)}{E:Ps}{err:Int}(h:scanOf D a z p hb=(L,E,err)):L.length≤z.toNat∧∀ x∈L,x.2.its.length≤6∧x.2.bks.length≤6:=by
 have key:L.length≤z.toNat∧∀ x∈L,x.2.ok:=by
  unfold scanOf at h
  obtain⟨⟨o,e⟩,ho⟩:∃ y,start D a z p hb=y:=⟨_,rfl⟩
  rw[ho]at h
  cases o with
  | none=>
   injection h with h1 h2
   subst h1
   exact⟨Nat.zero_le _,by simp⟩
  | some q=>
   have:=recs_ok hD a z z.toNat q
   dsimp only at h
   rw[h]at this
   exact this
 refine⟨key.1,fun x hx=> ?_⟩
 have hk:=key.2 x hx
 unfold record.Rc.ok at hk
 have h6:=hk.2.2.2.1.2
 have hc:=hk.2.2.2.2.2.1
 have hl:=record.count_le x.2.its
 exact⟨h6,by omega⟩
end Go.Proofs.YtjkmahmoclobmaaGreat.sc
