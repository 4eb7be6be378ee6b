import Derived.Test.YtjkmahmoclobmaaGreatQScanNextCore
import Derived.Test.YtjkmahmoclobmaaGreatQRDiskCore
import Derived.Test.YtjkmahmoclobmaaGreatQRecordROf
import Derived.Test.YtjkmahmoclobmaaGreatQGeomRef
import Derived.Test.YtjkmahmoclobmaaGreatQOwns
namespace Go.Proofs.YtjkmahmoclobmaaGreat.sc
set_option linter.unusedSimpArgs false
open Go.RowKit mem base disk owns
open record (Rc RcIn RcAt put5 put5_kept cell5 rsize_any rof_fars)
open item (It Items)
def nextVal:List It→Int
 | []=> -1
 | i::l=>if i.k=7 then i.v else nextVal l
theorem nextVal_none:∀ (l:List It),(l.any fun i=>decide (i.k=7))=false→nextVal l= -1
 | [],_=>rfl
 | i::l,h=>by
  rw[List.any_cons,Bool.or_eq_false_iff]at h
  unfold nextVal
  rw[if_neg (of_decide_eq_false h.1)]
  exact nextVal_none l h.2
theorem nextVal_at:∀ (l:List It) (k:Nat) (i:It),l[k]? = some i→((l.take k).any fun i=>decide (i.k=7))=false→i.k=7→nextVal l=i.v
 | [],k,i,h,_,_=>by simp at h
 | j::l,0,i,h,_,h7=>by
  simp at h
  subst h
  unfold nextVal
  rw[if_pos h7]
 | j::l,k+1,i,h,hn,h7=>by
  rw[List.take_succ_cons,List.any_cons,Bool.or_eq_false_iff]at hn
  unfold nextVal
  rw[if_neg (of_decide_eq_false hn.1)]
  exact nextVal_at l k i (by simpa using h) hn.2 h7
theorem next_pos (i:It)(h:i.may=true)(h7:i.k=7):0≤i.v:=by
 rw[item.It.may_iff]at h
 unfold item.It.ok at h
 omega
theorem nextVal_may:∀ (l:List It),item.allMay l→decide (0≤nextVal l)=(l.any fun i=>decide (i.k=7))
 | [],_=>rfl
 | i::l,h=>by
  have ih:=nextVal_may l (fun j hj=>h j (by simp [hj]))
  rw[List.any_cons]
  unfold nextVal
  by_cases h7:i.k=7
  ·rw[if_pos h7,decide_eq_true h7,Bool.true_or]
   have:=h i (by simp)
   refine decide_eq_true ?_
   exact next_pos i this h7
  ·rw[if_neg h7,decide_eq_false h7,Bool.false_or]
   exact ih

set_option maxRecDepth 100000 in
set_option maxHeartbeats 1000000 in
theorem rnextOf_any (R:Rc)(L P:Option Addr)(n c k d:Nat)(w:World)(hv:Items w [] L R.its)(hl:R.its.length=n)(hn:n≤1000):
  Calls Tryz.prog 82 #[.agg #[.int .i64 R.m,.int .i64 R.l,.int .i64 R.p,.slice L n c,.slice P k d]] w fun e w'=>e= .returned (.int .i64 (nextVal R.its))∧Kept [] w w':=by
 have hk0:=(Kept.refl [] w).alloc (.cells #[.int .i64 R.m,.int .i64 R.l,.int .i64 R.p,.slice L n c,.slice P k d] 111)
 have HV:=hide (hv.kept hk0 (by simp))
 have HK0:=hide hk0
 have HL:=hide hl
 obtain⟨w0,hw0⟩:∃ w0,w.alloc (.cells #[.int .i64 R.m,.int .i64 R.l,.int .i64 R.p,.slice L n c,.slice P k d] 111)=w0:=⟨_,rfl⟩
 have hb0:=Blk.new w 111 #[.int .i64 R.m,.int .i64 R.l,.int .i64 R.p,.slice L n c,.slice P k d]
 rw[hw0]at HV HK0 hb0
 obtain⟨g,hg⟩:∃ g,w.heap.size=g:=⟨_,rfl⟩
 rw[hg]at hb0
 have b3:=hb0.cell 3
 clear hv hl hk0 hb0
 generalize R.its=its at HV HL ⊢
 go_enter Tryz.func82,Tryz.ntmps82
 go_wp2
 go_loopw [3] (fun i wr=>∃ j:Nat,j≤n∧i= .int .i64 j∧Hid (((its.take j).any fun i=>decide (i.k=7))=false)∧wr=w0) (fun i wr=>n-(intOf i).toNat)
 case atStart=>exact⟨0,by omega,rfl,hide rfl,rfl⟩
 case round=>
  obtain⟨j,hj,rfl,HM1,rfl⟩:=hrel
  by_cases hlt:j<n
  ·obtain⟨i,hi⟩:∃ i,its[j]? = some i:=⟨_,List.getElem?_eq_getElem (by rw[HL.out];exact hlt)⟩
   obtain⟨ad,rfl,_,c0,c1,c2,c3⟩:=HV.out.at_ hi
   have HI:=hide hi
   clear hi
   by_cases hm:i.k=7
   ·have t7:(i.k==7)=true:=beq_iff_eq.2 hm
    have HE:Hid (nextVal its=i.v):=hide (nextVal_at its j i HI.out HM1.out hm)
    clear hm
    go_wp2
    go_ret
    exact⟨by rw[HE.out];rfl,HK0.out⟩
   ·have t7:(i.k==7)=false:=beq_eq_false_iff_ne.2 hm
    have HM2:Hid (((its.take (j+1)).any fun i=>decide (i.k=7))=false):=hide (by
     rw[List.take_add_one,HI.out,List.any_append,HM1.out]
     simp [hm])
    clear hm
    go_wp2
    go_roundw
    case rel=>exact⟨j+1,by omega,by go_num,HM2,by trivial⟩
    case measure=>simp [intOf];omega
  ·obtain rfl:j=n:=by omega
   have HE:Hid (nextVal its= -1):=hide (by
    have:=HM1.out
    rw[List.take_of_length_le (by rw[HL.out];exact Nat.le_refl _)]at this
    exact nextVal_none its this)
   go_wp2
   go_ret
   exact⟨by rw[HE.out];rfl,HK0.out⟩
end Go.Proofs.YtjkmahmoclobmaaGreat.sc
