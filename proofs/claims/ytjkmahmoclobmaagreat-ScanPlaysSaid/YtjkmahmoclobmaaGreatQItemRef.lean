import Derived.Test.YtjkmahmoclobmaaGreatQItemCore
import Derived.Test.YtjkmahmoclobmaaGreatQRefCore
import Derived.Test.YtjkmahmoclobmaaGreatQHeld
set_option maxRecDepth 100000
namespace Go.Proofs.YtjkmahmoclobmaaGreat.item
open Go.RowKit mem base row rowBack fill ref
theorem rbytes_many (L:Option Addr)(n c:Nat)(w:World)(h:6<n):
  Calls Tryz.prog 135 #[.slice L n c] w fun e w'=>e= .returned (.tuple #[.slice none 0 0,.int .i64 1])∧Kept [] w w':=by
 go_enter Tryz.func135,Tryz.ntmps135
 go_wp2
 go_ret2
 exact⟨rfl,Kept.refl _ _⟩

theorem rheld {p g:Nat}{q:Addr}{i:It}{w0 W W':World}(hp:q.block≠p)(hg:q.block≠g)(h:Kept [p,g] w0 W∧W.cell? q=some (.int .i64 i.k)∧W.cell? ⟨q.block,q.off+1,none⟩=some (.int .i64 i.b)∧W.cell? ⟨q.block,q.off+2,none⟩=some (.int .i64 i.c))(hk:Kept [p,g] W W'):
  Kept [p,g] w0 W'∧W'.cell? q=some (.int .i64 i.k)∧W'.cell? ⟨q.block,q.off+1,none⟩=some (.int .i64 i.b)∧W'.cell? ⟨q.block,q.off+2,none⟩=some (.int .i64 i.c):=
 have hn:q.block∉[p,g]:=by simp;exact⟨hp,hg⟩
 ⟨h.1.trans hk (fun _ hi=> .inl hi),hk.cell h.2.1 hn,hk.cell h.2.2.1 hn,hk.cell h.2.2.2 hn⟩

set_option maxHeartbeats 1000000 in
theorem rbytes_in (L:Option Addr)(n c:Nat)(l:List It)(w:World)(hv:Items w [] L l)(hl:l.length=n)(hn:n≤6):
  Calls Tryz.prog 135 #[.slice L n c] w fun e w'=>∃ A n' c',e= .returned (.tuple #[.slice A n' c',.int .i64 (encode l).2])∧n'=(encode l).1.length∧(∀ S:List Nat,(∀ i∈S,i<w.heap.size)→Vals w' S A ((encode l).1.map B))∧Kept [] w w':=by
 have HV:=hide hv
 have HL:=hide hl
 clear hv hl
 go_enter Tryz.func135,Tryz.ntmps135
 go_wp2
 go_loopw [4] (fun i wr=>∃ k:Nat,k≤n∧i= .int .i64 k∧Hid (allMay (l.take k))∧Hid (Kept [] w wr)) (fun i wr=>n-(intOf i).toNat)
 case atStart=>exact⟨0,by omega,rfl,hide (by simp [allMay]),hide (Kept.refl _ _)⟩
 case round=>
  obtain⟨k,hk,rfl,HM1,HK1⟩:=hrel
  by_cases hlt:k<n
  ·obtain⟨i,hi⟩:∃ i,l[k]? = some i:=⟨_,List.getElem?_eq_getElem (by rw[HL.out];exact hlt)⟩
   obtain⟨ad,rfl,_,c0,c1,c2,c3⟩:=(HV.out.kept HK1.out (by simp)).at_ hi
   have HI:=hide hi
   clear hi
   have hts:l.take (k+1)=l.take k++[i]:=by rw[List.take_add_one,HI.out];rfl
   have HT:=hide hts
   clear hts
   go_wp2_with fail
   refine(rmay_any i _).mono ?_
   rintro e w2 ⟨rfl,hk2⟩
   have HK2:=hide (HK1.out.trans hk2 (by simp))
   clear hk2
   by_cases hm:i.may=true
   ·rw[hm]
    have HM2:=hide (allMay_snoc _ i HM1.out hm)
    clear hm
    go_wp2
    go_roundw
    case rel=>exact⟨k+1,by omega,by go_num,hide (by rw[HT.out];exact HM2.out),HK2⟩
    case measure=>simp [intOf];omega
   ·have hm':=(Bool.not_eq_true _).mp hm
    rw[hm']
    have HE:=hide (encode_bad l i (List.mem_of_getElem? HI.out) hm')
    clear hm hm'
    go_wp2
    go_ret2
    rw[HE.out]
    exact⟨none,0,0,rfl,rfl,fun S _=>Vals.nil _ _ _,HK2.out⟩
  ·obtain rfl:k=n:=by omega
   have hfull:l.take k=l:=List.take_of_length_le (by rw[HL.out];exact Nat.le_refl _)
   rw[hfull]at HM1
   have HE:=hide (encode_yes l (by rw[HL.out];exact hn) HM1.out)
   clear hfull
   go_wp2_with fail
   refine(rnew_ok (7*(k:Int)) _ (by omega) (by omega)).mono ?_
   rintro e w1 ⟨p,g,rfl,hp,hg,hr,hk3⟩
   rw[show(⟨List.replicate (7*(k:Int)).toNat 0,0⟩:Row)=rowF (7*k) []by rw[show(7*(k:Int)).toNat=7*k by omega];exact rowF_nil _]at hr
   have hp1:=hr.lt
   have hg1:=hr.blt
   have HR1:=hide hr
   have HK3:=hide (HK1.out.trans hk3 (by simp))
   have HP:=hide (Nat.le_trans HK1.out.size hp)
   have HG:=hide (Nat.le_trans HK1.out.size hg)
   clear hr hk3 hp hg HK1
   go_wp2
   go_loopw [6] (fun i wr=>∃ j:Nat,j≤k∧i= .int .i64 j∧Hid (RefAt wr p g (rowF (7*k) (laid (l.take j))))∧Hid (Kept [] w wr)) (fun i wr=>k-(intOf i).toNat)
   case atStart=>exact⟨0,by omega,rfl,HR1,HK3⟩
   case round=>
    obtain⟨j,hj,rfl,HR2,HK4⟩:=hrel
    by_cases hlt2:j<k
    ·obtain⟨i,hi⟩:∃ i,l[j]? = some i:=⟨_,List.getElem?_eq_getElem (by rw[HL.out];exact hlt2)⟩
     obtain⟨ad0,rfl,_,hit0⟩:=HV.out.at_ hi
     have hbl:=block_lt_of_cell hit0.1
     have hqp:(ad0.add (j*4)).block≠p:=by have:=HP.out;omega
     have hqg:(ad0.add (j*4)).block≠g:=by have:=HG.out;omega
     obtain⟨c0,c1,c2,c3⟩:=hit0.kept HK4.out (by simp)
     have HI:=hide hi
     clear hi hit0 hbl
     have hts:l.take (j+1)=l.take j++[i]:=by rw[List.take_add_one,HI.out];rfl
     have HT:=hide hts
     clear hts
     have HF:=hide (i.fits ((It.may_iff i).1 (HM1.out i (List.mem_of_getElem? HI.out))))
     have hS0:Kept [p,g] wr wr∧wr.cell? (ad0.add (j*4))=some (.int .i64 i.k)∧wr.cell? ⟨(ad0.add (j*4)).block,(ad0.add (j*4)).off+1,none⟩=some (.int .i64 i.b)∧wr.cell? ⟨(ad0.add (j*4)).block,(ad0.add (j*4)).off+2,none⟩=some (.int .i64 i.c):=⟨Kept.refl _ _,c0,c1,c2⟩
     have HS0:=hide hS0
     have C3:=hide c3
     have hpw:=HR2.out.lt
     have hgw:=HR2.out.blt
     clear hS0 c3
     go_wp2
     go_region_held3 (fun W=>Kept [p,g] wr W∧W.cell? (ad0.add (j*4))=some (.int .i64 i.k)∧W.cell? ⟨(ad0.add (j*4)).block,(ad0.add (j*4)).off+1,none⟩=some (.int .i64 i.b)∧W.cell? ⟨(ad0.add (j*4)).block,(ad0.add (j*4)).off+2,none⟩=some (.int .i64 i.c))
      (first|exact⟨HS0.out.1.drew,HS0.out.2⟩|exact rheld hqp hqg (by assumption) hk5|exact rheld hqp hqg (by assumption) ((Kept.refl _ _).alloc _)|assumption)
      (first
       | (go_at_call 131
          refine(rput_at p g _ 1 (some ⟨wr.heap.size,0,none⟩) [i.k,i.b,i.c] 3 3 _ rfl (HR2.out.kept (S:=[]) (((Kept.refl _ wr).drew).alloc _) (by simp) (by simp)) (Vals.lit wr.drew [p,g] _ _ _ ([i.k,i.b,i.c].map I) rfl (by simp;omega)) (by omega)).mono ?_
          rintro e w5 ⟨rfl,hr5,hk5⟩))
     have hS5:= ‹Kept [p,g] wr w5∧_›
     rw[show((1:Int))=((1:Nat):Int)by rfl,rowF_put (7*k) _ 1 _ rfl HF.out.1 (by simp [laid_len];omega)]at hr5
     have HR5:=hide hr5
     have HK5:=hide (HK4.out.trans hS5.1 (by have:=HP.out;have:=HG.out;simp;omega))
     have c3:=hS5.1.cell C3.out (by simp;exact⟨hqp,hqg⟩)
     clear hr5 hk5 hS5 c0 c1 c2
     go_wp2_with fail
     refine(rone_any p g _ _ 4 i.v _ HR5.out (by rw[show((4:Int))=((4:Nat):Int)by rfl,rowF_put (7*k) _ 4 _ rfl HF.out.2 (by simp [laid_len,bytesOf_length];omega)])).mono ?_
     rintro e w6 ⟨rfl,hr6,hk6⟩
     have HR6:Hid (RefAt w6 p g (rowF (7*k) (laid (l.take (j+1))))):=hide (by rw[HT.out,laid_snoc];unfold It.bytes;rw[←List.append_assoc];exact hr6)
     have HK6:=hide (HK5.out.trans hk6 (by have:=HP.out;have:=HG.out;simp;omega))
     clear hr6 hk6
     go_wp2
     go_roundw
     case rel=>exact⟨j+1,by omega,by go_num,HR6,HK6⟩
     case measure=>simp [intOf];omega
    ·obtain rfl:j=k:=by omega
     have hfull:l.take j=l:=List.take_of_length_le (by rw[HL.out];exact Nat.le_refl _)
     rw[hfull]at HR2
     have d0:=HR2.out.c0
     rw[rowF_full _ _ (by rw[laid_len,HL.out]),laid_len,HL.out]at d0
     have hv2:∀ S:List Nat,(∀ i∈S,i<w.heap.size)→Vals wr S (some ⟨g,0,none⟩) ((laid l).map B):=fun S hS=>by
      have:=HR2.out.vals (S:=S) (fun hm=>by have:=hS _ hm;have:=HG.out;omega)
      rwa [rowF_full _ _ (by rw[laid_len,HL.out])]at this
     have HV2:=hide hv2
     clear hfull hv2
     go_wp2
     go_ret2
     rw[HE.out]
     exact⟨some ⟨g,0,none⟩,7*j,7*j,rfl,by rw[laid_len,HL.out],HV2.out,HK4.out⟩

theorem rbytes_far (L:Option Addr)(n c:Nat)(l:List It)(w:World)(hv:Items w [] L l)(hl:l.length=n):
  Calls Tryz.prog 135 #[.slice L n c] w fun e w'=>∃ A n' c',e= .returned (.tuple #[.slice A n' c',.int .i64 (encode l).2])∧n'=(encode l).1.length∧(∀ S:List Nat,(∀ i∈S,i<w.heap.size)→Vals w' S A ((encode l).1.map B))∧Kept [] w w':=by
 by_cases h:n≤6
 ·exact rbytes_in L n c l w hv hl h
 ·rw[encode_many l (by omega)]
  exact(rbytes_many L n c w (by omega)).mono fun _ _ ⟨h1,h2⟩=>⟨none,0,0,h1,rfl,fun S _=>Vals.nil _ _ _,h2⟩
theorem rbytes_any (L:Option Addr)(n c:Nat)(l:List It)(w:World)(hv:Items w [] L l)(hl:l.length=n):
  Calls Tryz.prog 135 #[.slice L n c] w fun e w'=>∃ A n' c',e= .returned (.tuple #[.slice A n' c',.int .i64 (encode l).2])∧n'=(encode l).1.length∧Vals w' [] A ((encode l).1.map B)∧Kept [] w w':=
 (rbytes_far L n c l w hv hl).mono fun _ _ ⟨A,n',c',h1,h2,h3,h4⟩=>⟨A,n',c',h1,h2,h3 [] (by simp),h4⟩
end Go.Proofs.YtjkmahmoclobmaaGreat.item
