import Derived.Test.YtjkmahmoclobmaaGreatQItemCore
import Derived.StillTailTactics
import Derived.Laws.StructEq
namespace Go.Proofs.YtjkmahmoclobmaaGreat.item
open Go.RowKit mem base
theorem neq_item (x y:It)(W:World):(binOp .neq 84 (.agg #[.int .i64 x.k,.int .i64 x.b,.int .i64 x.c,.int .i64 x.v]) (.agg #[.int .i64 y.k,.int .i64 y.b,.int .i64 y.c,.int .i64 y.v])).run Tryz.prog W= .ok (.bool (!decide (x=y))) W:=by
 rw[run_neq_struct,show(10000:Nat)=9999+1 from rfl,run_equalIn_agg W 9999 _ _ _ (by kernel_rfl) (by kernel_rfl)]
 obtain⟨a,b,c,d⟩:=x
 obtain⟨a',b',c',d'⟩:=y
 have u3:=Tryz.underlying3
 simp only[Program.fieldsOf,Tryz.underlying84]
 go_simp
 by_cases h1:a=a'<;>by_cases h2:b=b'<;>by_cases h3:c=c'<;>by_cases h4:d=d'<;>simp [h1,h2,h3,h4]

set_option maxRecDepth 100000 in
theorem items_any (A1 A2:Option Addr)(n1 n2 c1 c2:Nat)(xs ys:List It)(w:World)(hn1:xs.length=n1)(hn2:ys.length=n2)(h1:Items w [] A1 xs)(h2:Items w [] A2 ys)(hm:n1≤140737488355328):
  Calls Tryz.prog 57 #[.slice A1 n1 c1,.slice A2 n2 c2] w fun e w'=>e= .returned (.bool (decide (xs=ys)))∧Kept [] w w':=by
 have HN1:=hide hn1
 have HN2:=hide hn2
 have H1:=hide h1
 have H2:=hide h2
 clear hn1 hn2 h1 h2
 by_cases hl:n1=n2
 ·subst hl
  go_enter Tryz.func57,Tryz.ntmps57
  go_wp2
  go_loopw [5] (fun i wr=>∃ j:Nat,j≤n1∧i= .int .i64 j∧Hid (xs.take j=ys.take j)∧∃ d,wr=w.drewN d) (fun i wr=>n1-(intOf i).toNat)
  case atStart=>exact⟨0,Nat.zero_le _,rfl,hide rfl,0,rfl⟩
  case round=>
   obtain⟨j,hj,rfl,heq,d,rfl⟩:=hrel
   by_cases hlt:j<n1
   ·obtain⟨x,hx⟩:∃ x,xs[j]? = some x:=⟨_,List.getElem?_eq_getElem (by rw[HN1.out];exact hlt)⟩
    obtain⟨y,hy⟩:∃ y,ys[j]? = some y:=⟨_,List.getElem?_eq_getElem (by rw[HN2.out];exact hlt)⟩
    obtain⟨ad1,rfl,_,a0,a1,a2,a3⟩:=H1.out.at_ hx
    obtain⟨ad2,rfl,_,b0,b1,b2,b3⟩:=H2.out.at_ hy
    have HX:=hide hx
    have HY:=hide hy
    clear hx hy
    have hne:=neq_item x y
    by_cases hxy:x=y
    ·subst hxy
     rw[show(!decide (x=x))=false by simp]at hne
     have HTK:Hid (xs.take (j+1)=ys.take (j+1)):=hide (by rw[List.take_add_one,List.take_add_one,HX.out,HY.out,heq.out])
     go_wp2
     go_quiet (fail)
     go_wp2
     go_roundw
     case rel=>exact⟨j+1,by omega,by go_num,HTK,_,rfl⟩
     case measure=>simp [intOf];omega
    ·rw[show(!decide (x=y))=true by simp [hxy]]at hne
     have HNEQ:Hid (decide (xs=ys)=false):=hide (decide_eq_false (fun e=>hxy (by
      have a:=HX.out
      have b:=HY.out
      rw[e,b]at a
      injection a with a
      exact a.symm)))
     clear hxy
     go_wp2
     go_quiet (fail)
     go_wp2
     go_ret
     exact⟨by rw[HNEQ.out];rfl,((Kept.refl [] w).drewN _).drewN _⟩
   ·obtain rfl:j=n1:=by omega
    have HE:Hid (decide (xs=ys)=true):=hide (decide_eq_true (by
     have:=heq.out
     rw[List.take_of_length_le (by rw[HN1.out];exact Nat.le_refl _),List.take_of_length_le (by rw[HN2.out];exact Nat.le_refl _)]at this
     exact this))
    go_wp2
    go_ret
    exact⟨by rw[HE.out];rfl,(Kept.refl [] w).drewN _⟩
 ·have hl1:((n1:Int) != (n2:Int))=true:=by rw[bne_iff_ne];omega
  have HE:Hid (decide (xs=ys)=false):=hide (decide_eq_false (fun e=>hl (by rw[←HN1.out,←HN2.out,e])))
  clear hl
  go_enter Tryz.func57,Tryz.ntmps57
  go_wp2
  go_ret
  exact⟨by rw[HE.out];rfl,Kept.refl _ _⟩
end Go.Proofs.YtjkmahmoclobmaaGreat.item
