import Derived.Test.YtjkmahmoclobmaaGreatYRefCore
import Derived.Test.YtjkmahmoclobmaaGreatYCrcCore
import Derived.Test.YtjkmahmoclobmaaGreatYShapes
import Derived.Test.YtjkmahmoclobmaaGreatYFar
import Derived.Test.YtjkmahmoclobmaaGreatYItemCore
import Derived.Test.YtjkmahmoclobmaaGreatYHeld
set_option maxRecDepth 100000
namespace Go.Proofs.YtjkmahmoclobmaaGreat.ref
open Go.RowKit mem row fill rowBack crc super
theorem RefAt.goto {w:World}{p b:Nat}{R:Row}(h:RefAt w p b R)(n:Nat)(hn:n≤R.bs.length)(q:Int)(hq:q=(n:Int)):RefAt (w.setCell ⟨p,1,none⟩ (.int .i64 q)) p b ⟨R.bs,n⟩:=by
 have hne:=h.ne_;subst hq;obtain⟨h1,h2,h3,h4⟩:=h;exact⟨h1.set_ 1 _,h2.far_ hne 1 _,hn,h4⟩

theorem rbegun_any (n:Nat)(a b:UInt8)(w:World)(h2:2≤n)(hn:n≤65536):
  Calls Tryz.prog 129 #[.int .i64 n,B a,B b] w fun e w'=>∃ p g,e= .returned (.pointer (some ⟨p,0,none⟩))∧w.heap.size≤p∧w.heap.size≤g∧RefAt w' p g (rowF n [a,b])∧Kept [] w w':=by
 unfold B;go_enter Tryz.func129,Tryz.ntmps129;go_wp2_with fail;refine(rnew_ok (n:Int) _ (by omega) (by omega)).mono ?_;rintro e w1 ⟨p,g,rfl,hp,hg,hr,hk⟩;rw[show(⟨List.replicate (n:Int).toNat 0,0⟩:Row)=rowF n []by rw[Int.toNat_natCast];exact rowF_nil n]at hr;have hp1:=hr.lt;have hg1:=hr.blt;have HR:=hide hr;have HK:=hide hk;clear hr hk;go_wp2_with fail;refine(rlay_at p g _ (some ⟨w1.heap.size,0,none⟩) [a,b] 2 2 _ rfl (HR.out.kept (S:=[]) ((Kept.refl _ w1).alloc _) (by simp) (by simp)) (Vals.lit w1 [p,g] _ _ _ ([a,b].map B) rfl (by simp;omega))).mono ?_;rintro e w2 ⟨rfl,hr,hk⟩;rw[rowF_lay n [] [a,b] (by simpa using h2)]at*;have HR2:=hide hr;have HK2:=hide (HK.out.lit _ hk (by simp;omega));clear hr hk;go_wp2;go_ret;exact⟨p,g,rfl,hp,hg,HR2.out,HK2.out⟩

theorem put_end (bs:List UInt8)(y:Int)(h:bs.length=64)(hf:fitsW (4:Nat) y=true):(Row.put ⟨bs,60⟩ 4 [y]).2=⟨bs.take 60++bytesOf 4 [y],64⟩:=by
 have e:Row.put ⟨bs,60⟩ 4 [y]=(true,⟨over bs 60 (bytesOf 4 [y]),64⟩):=if_pos ⟨rfl,by simpa using hf,by simp [h]⟩;rw[e];refine Row.same ⟨?_,rfl⟩;simp only[over,bytesOf_length];rw[List.drop_eq_nil_of_le (by simp [h]),List.append_nil]

theorem rclosed_any (p g:Nat)(R:Row)(w:World)(h:RefAt w p g R)(hl:R.bs.length=64):
  Calls Tryz.prog 132 #[.pointer (some ⟨p,0,none⟩)] w fun e w'=>e= .returned (.slice (some ⟨g,0,none⟩) 64 64)∧Arr w' g 64 (R.bs.take 60++sumOf (R.bs.take 60))∧Kept [p,g] w w':=by
 have c0:=h.c0;rw[hl]at c0;have f1:=h.f1;have c1:=h.c1;have hr1:=h.goto 60 (by omega) 60 rfl;have HR1:=hide hr1;have HK1:=hide ((Kept.refl [p,g] w).set_ (b:=p) (.inl (by simp)) 1 (.int .i64 60));have HL:=hide hl
 have d0:(w.setCell ⟨p,1,none⟩ (.int .i64 60)).cell? ⟨p,0,none⟩=some (.slice (some ⟨g,0,none⟩) 64 64):=by
  have:=hr1.c0
  rwa [hl]at this
 clear h hl hr1
 have hl60:(R.bs.take 60).length=60:=by rw[List.length_take,HL.out];rfl
 have H60:=hide hl60;clear hl60;go_enter Tryz.func132,Tryz.ntmps132;go_wp2_with fail;refine(rsum_any (some ⟨g,0,none⟩) 60 64 (R.bs.take 60) _ (by rw[List.map_take];exact(HR1.out.vals (by simp)).first 60) H60.out (by omega)).mono ?_;rintro e w2 ⟨rfl,rfl⟩;go_wp2_with fail;refine(rone_any p g _ _ 4 (more 0 (R.bs.take 60):Int) _ HR1.out (put_end R.bs _ HL.out (sum_fits _))).mono ?_;rintro e w3 ⟨rfl,hr3,hk3⟩;have e0:=hr3.c0
 have hlen:(R.bs.take 60++bytesOf 4 [(more 0 (R.bs.take 60):Int)]).length=64:=by rw[List.length_append,H60.out,bytesOf_length];rfl
 dsimp only at e0;rw[hlen]at e0;have ha:=hr3.2.1;dsimp only at ha;rw[hlen]at ha;have HA:=hide ha;have HK3:=hide (HK1.out.trans hk3 (fun i hi=> .inl hi));clear hr3 hk3 ha hlen c0 c1 f1 d0;go_wp2;go_ret;exact⟨rfl,HA.out,HK3.out⟩
def startB (bs:List UInt8)(n:Nat)(a b:UInt8):Bool:=decide (bs.length=n)&&(bs[0]? == some a&&bs[1]? == some b)
theorem rstarts_any (P:Option Addr)(m c n:Nat)(a b:UInt8)(bs:List UInt8)(w:World)(hv:Vals w [] P (bs.map B))(hl:bs.length=m)(hn:2≤n):
  Calls Tryz.prog 143 #[.slice P m c,.int .i64 n,B a,B b] w fun e w'=>e= .returned (.bool (startB bs n a b))∧w=w':=by
 unfold B
 by_cases hm:m=n
 ·subst hm;obtain⟨x,hx⟩:∃ x,bs[0]? = some x:=⟨_,List.getElem?_eq_getElem (by omega)⟩;obtain⟨y,hy⟩:∃ y,bs[1]? = some y:=⟨_,List.getElem?_eq_getElem (by omega)⟩;obtain⟨ad,rfl,_,c0⟩:=hv 0 (B x) (by rw[List.getElem?_map,hx];rfl);obtain⟨ad2,h2,_,c1⟩:=hv 1 (B y) (by rw[List.getElem?_map,hy];rfl);cases h2;unfold B at c0 c1;rw[show ad.add 0=ad by unfold Addr.add;simp]at c0;rw[add_pos ad 1 (by omega)]at c1
  have hs:startB bs m a b=(x==a&&y==b):=by
   unfold startB;rw[hx,hy,decide_eq_true hl]
   rfl
  have hxa:((x.toNat:Int)==(a.toNat:Int))=(x==a):=by
   by_cases h:x=a
   ·subst h
    simp
   ·have:x.toNat≠a.toNat:=fun e=>h (UInt8.toNat_inj.1 e)
    rw[beq_eq_false_iff_ne.2 (show(x.toNat:Int)≠a.toNat by omega),beq_eq_false_iff_ne.2 h]
  have hyb:((y.toNat:Int)==(b.toNat:Int))=(y==b):=by
   by_cases h:y=b
   ·subst h
    simp
   ·have:y.toNat≠b.toNat:=fun e=>h (UInt8.toNat_inj.1 e)
    rw[beq_eq_false_iff_ne.2 (show(y.toNat:Int)≠b.toNat by omega),beq_eq_false_iff_ne.2 h]
  have HS:=hide hs
  have g0:(0:Int)<m:=by omega
  have g1:(1:Int)<m:=by omega
  by_cases h0:x=a
  ·rw[beq_iff_eq.2 h0]at hxa;have hn0:=hxa;clear hs hv hl hx hy hxa;cases hyv:(y==b)
   ·rw[hyv]at hyb;have HY:=hide hyv;clear hyv;go_enter Tryz.func143,Tryz.ntmps143;go_wp2;go_ret;exact⟨by rw[HS.out,HY.out,h0];simp,rfl⟩
   ·rw[hyv]at hyb;have HY:=hide hyv;clear hyv;go_enter Tryz.func143,Tryz.ntmps143;go_wp2;go_ret;exact⟨by rw[HS.out,HY.out,h0];simp,rfl⟩
  ·rw[beq_eq_false_iff_ne.2 h0]at hxa;have HX:=hide h0;clear hs hv hl hx hy hyb h0;go_enter Tryz.func143,Tryz.ntmps143;go_wp2;go_ret;exact⟨by rw[HS.out,beq_eq_false_iff_ne.2 HX.out];rfl,rfl⟩
 ·have hs:startB bs n a b=false:=by
   unfold startB;rw[decide_eq_false (by rw[hl];exact hm)]
   rfl
  have hmn:((m:Int)==(n:Int))=false:=beq_eq_false_iff_ne.2 (by omega);have HS:=hide hs;clear hs hl hv;go_enter Tryz.func143,Tryz.ntmps143;go_wp2;go_ret;exact⟨by rw[HS.out];rfl,rfl⟩
end Go.Proofs.YtjkmahmoclobmaaGreat.ref
set_option maxRecDepth 100000
namespace Go.Proofs.YtjkmahmoclobmaaGreat.item
open Go.RowKit mem base row rowBack fill ref
theorem rbytes_many (L:Option Addr)(n c:Nat)(w:World)(h:6<n):
  Calls Tryz.prog 135 #[.slice L n c] w fun e w'=>e= .returned (.tuple #[.slice none 0 0,.int .i64 1])∧Kept [] w w':=by
 go_enter Tryz.func135,Tryz.ntmps135;go_wp2;go_ret2;exact⟨rfl,Kept.refl _ _⟩

theorem rheld {p g:Nat}{q:Addr}{i:It}{w0 W W':World}(hp:q.block≠p)(hg:q.block≠g)(h:Kept [p,g] w0 W∧W.cell? q=some (.int .i64 i.k)∧W.cell? ⟨q.block,q.off+1,none⟩=some (.int .i64 i.b)∧W.cell? ⟨q.block,q.off+2,none⟩=some (.int .i64 i.c))(hk:Kept [p,g] W W'):
  Kept [p,g] w0 W'∧W'.cell? q=some (.int .i64 i.k)∧W'.cell? ⟨q.block,q.off+1,none⟩=some (.int .i64 i.b)∧W'.cell? ⟨q.block,q.off+2,none⟩=some (.int .i64 i.c):=
 have hn:q.block∉[p,g]:=by simp;exact⟨hp,hg⟩
 ⟨h.1.trans hk (fun _ hi=> .inl hi),hk.cell h.2.1 hn,hk.cell h.2.2.1 hn,hk.cell h.2.2.2 hn⟩

set_option maxHeartbeats 1000000 in
theorem rbytes_in (L:Option Addr)(n c:Nat)(l:List It)(w:World)(hv:Items w [] L l)(hl:l.length=n)(hn:n≤6):
  Calls Tryz.prog 135 #[.slice L n c] w fun e w'=>∃ A n' c',e= .returned (.tuple #[.slice A n' c',.int .i64 (encode l).2])∧n'=(encode l).1.length∧(∀ S:List Nat,(∀ i∈S,i<w.heap.size)→Vals w' S A ((encode l).1.map B))∧Kept [] w w':=by
 have HV:=hide hv;have HL:=hide hl;clear hv hl;go_enter Tryz.func135,Tryz.ntmps135;go_wp2
 go_loopw [4] (fun i wr=>∃ k:Nat,k≤n∧i= .int .i64 k∧Hid (allMay (l.take k))∧Hid (Kept [] w wr)) (fun i wr=>n-(intOf i).toNat)
 case atStart=>exact⟨0,by omega,rfl,hide (by simp [allMay]),hide (Kept.refl _ _)⟩
 case round=>
  obtain⟨k,hk,rfl,HM1,HK1⟩:=hrel
  by_cases hlt:k<n
  ·obtain⟨i,hi⟩:∃ i,l[k]? = some i:=⟨_,List.getElem?_eq_getElem (by rw[HL.out];exact hlt)⟩;obtain⟨ad,rfl,_,c0,c1,c2,c3⟩:=(HV.out.kept HK1.out (by simp)).at_ hi;have HI:=hide hi;clear hi
   have hts:l.take (k+1)=l.take k++[i]:=by rw[List.take_add_one,HI.out];rfl
   have HT:=hide hts;clear hts;go_wp2_with fail;refine(rmay_any i _).mono ?_;rintro e w2 ⟨rfl,hk2⟩;have HK2:=hide (HK1.out.trans hk2 (by simp));clear hk2
   by_cases hm:i.may=true
   ·rw[hm];have HM2:=hide (allMay_snoc _ i HM1.out hm);clear hm;go_wp2;go_roundw
    case rel=>exact⟨k+1,by omega,by go_num,hide (by rw[HT.out];exact HM2.out),HK2⟩
    case measure=>simp [intOf];omega
   ·have hm':=(Bool.not_eq_true _).mp hm;rw[hm'];have HE:=hide (encode_bad l i (List.mem_of_getElem? HI.out) hm');clear hm hm';go_wp2;go_ret2;rw[HE.out];exact⟨none,0,0,rfl,rfl,fun S _=>Vals.nil _ _ _,HK2.out⟩
  ·obtain rfl:k=n:=by omega
   have hfull:l.take k=l:=List.take_of_length_le (by rw[HL.out];exact Nat.le_refl _);rw[hfull]at HM1;have HE:=hide (encode_yes l (by rw[HL.out];exact hn) HM1.out);clear hfull;go_wp2_with fail;refine(rnew_ok (7*(k:Int)) _ (by omega) (by omega)).mono ?_;rintro e w1 ⟨p,g,rfl,hp,hg,hr,hk3⟩;rw[show(⟨List.replicate (7*(k:Int)).toNat 0,0⟩:Row)=rowF (7*k) []by rw[show(7*(k:Int)).toNat=7*k by omega];exact rowF_nil _]at hr;have hp1:=hr.lt;have hg1:=hr.blt;have HR1:=hide hr;have HK3:=hide (HK1.out.trans hk3 (by simp));have HP:=hide (Nat.le_trans HK1.out.size hp);have HG:=hide (Nat.le_trans HK1.out.size hg);clear hr hk3 hp hg HK1;go_wp2
   go_loopw [6] (fun i wr=>∃ j:Nat,j≤k∧i= .int .i64 j∧Hid (RefAt wr p g (rowF (7*k) (laid (l.take j))))∧Hid (Kept [] w wr)) (fun i wr=>k-(intOf i).toNat)
   case atStart=>exact⟨0,by omega,rfl,HR1,HK3⟩
   case round=>
    obtain⟨j,hj,rfl,HR2,HK4⟩:=hrel
    by_cases hlt2:j<k
    ·obtain⟨i,hi⟩:∃ i,l[j]? = some i:=⟨_,List.getElem?_eq_getElem (by rw[HL.out];exact hlt2)⟩;obtain⟨ad0,rfl,_,hit0⟩:=HV.out.at_ hi;have hbl:=block_lt_of_cell hit0.1
     have hqp:(ad0.add (j*4)).block≠p:=by have:=HP.out;omega
     have hqg:(ad0.add (j*4)).block≠g:=by have:=HG.out;omega
     obtain⟨c0,c1,c2,c3⟩:=hit0.kept HK4.out (by simp);have HI:=hide hi;clear hi hit0 hbl
     have hts:l.take (j+1)=l.take j++[i]:=by rw[List.take_add_one,HI.out];rfl
     have HT:=hide hts;clear hts;have HF:=hide (i.fits ((It.may_iff i).1 (HM1.out i (List.mem_of_getElem? HI.out))));have hS0:Kept [p,g] wr wr∧wr.cell? (ad0.add (j*4))=some (.int .i64 i.k)∧wr.cell? ⟨(ad0.add (j*4)).block,(ad0.add (j*4)).off+1,none⟩=some (.int .i64 i.b)∧wr.cell? ⟨(ad0.add (j*4)).block,(ad0.add (j*4)).off+2,none⟩=some (.int .i64 i.c):=⟨Kept.refl _ _,c0,c1,c2⟩;have HS0:=hide hS0;have C3:=hide c3;have hpw:=HR2.out.lt;have hgw:=HR2.out.blt;clear hS0 c3;go_wp2
     go_region_held3 (fun W=>Kept [p,g] wr W∧W.cell? (ad0.add (j*4))=some (.int .i64 i.k)∧W.cell? ⟨(ad0.add (j*4)).block,(ad0.add (j*4)).off+1,none⟩=some (.int .i64 i.b)∧W.cell? ⟨(ad0.add (j*4)).block,(ad0.add (j*4)).off+2,none⟩=some (.int .i64 i.c))
      (first|exact⟨HS0.out.1.drew,HS0.out.2⟩|exact rheld hqp hqg (by assumption) hk5|exact rheld hqp hqg (by assumption) ((Kept.refl _ _).alloc _)|assumption)
      (first
       | (go_at_call 131
          refine(rput_at p g _ 1 (some ⟨wr.heap.size,0,none⟩) [i.k,i.b,i.c] 3 3 _ rfl (HR2.out.kept (S:=[]) (((Kept.refl _ wr).drew).alloc _) (by simp) (by simp)) (Vals.lit wr.drew [p,g] _ _ _ ([i.k,i.b,i.c].map I) rfl (by simp;omega)) (by omega)).mono ?_
          rintro e w5 ⟨rfl,hr5,hk5⟩))
     have hS5:= ‹Kept [p,g] wr w5∧_›;rw[show((1:Int))=((1:Nat):Int)by rfl,rowF_put (7*k) _ 1 _ rfl HF.out.1 (by simp [laid_len];omega)]at hr5;have HR5:=hide hr5;have HK5:=hide (HK4.out.trans hS5.1 (by have:=HP.out;have:=HG.out;simp;omega));have c3:=hS5.1.cell C3.out (by simp;exact⟨hqp,hqg⟩);clear hr5 hk5 hS5 c0 c1 c2;go_wp2_with fail;refine(rone_any p g _ _ 4 i.v _ HR5.out (by rw[show((4:Int))=((4:Nat):Int)by rfl,rowF_put (7*k) _ 4 _ rfl HF.out.2 (by simp [laid_len,bytesOf_length];omega)])).mono ?_;rintro e w6 ⟨rfl,hr6,hk6⟩;have HR6:Hid (RefAt w6 p g (rowF (7*k) (laid (l.take (j+1))))):=hide (by rw[HT.out,laid_snoc];unfold It.bytes;rw[←List.append_assoc];exact hr6);have HK6:=hide (HK5.out.trans hk6 (by have:=HP.out;have:=HG.out;simp;omega));clear hr6 hk6;go_wp2;go_roundw
     case rel=>exact⟨j+1,by omega,by go_num,HR6,HK6⟩
     case measure=>simp [intOf];omega
    ·obtain rfl:j=k:=by omega
     have hfull:l.take j=l:=List.take_of_length_le (by rw[HL.out];exact Nat.le_refl _);rw[hfull]at HR2;have d0:=HR2.out.c0;rw[rowF_full _ _ (by rw[laid_len,HL.out]),laid_len,HL.out]at d0
     have hv2:∀ S:List Nat,(∀ i∈S,i<w.heap.size)→Vals wr S (some ⟨g,0,none⟩) ((laid l).map B):=fun S hS=>by
      have:=HR2.out.vals (S:=S) (fun hm=>by have:=hS _ hm;have:=HG.out;omega)
      rwa [rowF_full _ _ (by rw[laid_len,HL.out])]at this
     have HV2:=hide hv2;clear hfull hv2;go_wp2;go_ret2;rw[HE.out];exact⟨some ⟨g,0,none⟩,7*j,7*j,rfl,by rw[laid_len,HL.out],HV2.out,HK4.out⟩

theorem rbytes_far (L:Option Addr)(n c:Nat)(l:List It)(w:World)(hv:Items w [] L l)(hl:l.length=n):
  Calls Tryz.prog 135 #[.slice L n c] w fun e w'=>∃ A n' c',e= .returned (.tuple #[.slice A n' c',.int .i64 (encode l).2])∧n'=(encode l).1.length∧(∀ S:List Nat,(∀ i∈S,i<w.heap.size)→Vals w' S A ((encode l).1.map B))∧Kept [] w w':=by
 by_cases h:n≤6
 ·exact rbytes_in L n c l w hv hl h
 ·rw[encode_many l (by omega)]
  exact(rbytes_many L n c w (by omega)).mono fun _ _ ⟨h1,h2⟩=>⟨none,0,0,h1,rfl,fun S _=>Vals.nil _ _ _,h2⟩
end Go.Proofs.YtjkmahmoclobmaaGreat.item
