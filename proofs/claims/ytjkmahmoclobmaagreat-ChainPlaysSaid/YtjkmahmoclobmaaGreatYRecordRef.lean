import Derived.Test.YtjkmahmoclobmaaGreatYRecordCore
import Derived.Test.YtjkmahmoclobmaaGreatYAlike
import Derived.Test.YtjkmahmoclobmaaGreatYItemRef
import Derived.Test.YtjkmahmoclobmaaGreatYRecordDec
set_option maxRecDepth 100000
set_option maxHeartbeats 2000000
namespace Go.Proofs.YtjkmahmoclobmaaGreat.record
open Go.RowKit mem base row rowBack fill crc crcMath super item
theorem ok_items {R:Rc}(h:R.ok):(1≤R.its.length∧R.its.length≤6)∧allMay R.its:=⟨h.2.2.2.1,h.2.2.2.2.1⟩
theorem rmay_bad (R:Rc)(L A:Option Addr)(n c k d:Nat)(w:World)(hn:R.its.length=n)(h:¬((1≤R.m∧R.m≤2147483647)∧(1≤R.l∧R.l≤2147483647)∧(0≤R.p∧R.p≤4294967295)∧(1≤n∧n≤6))):
  Calls Tryz.prog 134 #[.agg #[.int .i64 R.m,.int .i64 R.l,.int .i64 R.p,.slice L n c,.slice A k d]] w fun e w'=>e= .returned (.bool R.may)∧Kept [] w w':=by
 have HK1:=hide ((Kept.refl [] w).alloc (.cells #[.int .i64 R.m,.int .i64 R.l,.int .i64 R.p,.slice L n c,.slice A k d] 111));have HF:Hid (R.may=false):=hide ((Rc.may_no R).2 (fun ho=>h ⟨ho.1,ho.2.1,ho.2.2.1,by rw[←hn];exact ho.2.2.2.1⟩))
 by_cases h1:1≤R.m∧R.m≤2147483647
 ·by_cases h2:1≤R.l∧R.l≤2147483647
  ·by_cases h3:0≤R.p∧R.p≤4294967295
   ·have H4:Hid (¬((1:Int)≤n∧(n:Int)≤6)):=hide (fun hh=>h ⟨h1,h2,h3,by omega⟩);have H1:=hide h1;have H2:=hide h2;have H3:=hide h3;clear h h1 h2 h3;go_enter Tryz.func134,Tryz.ntmps134;go_wp2_with fail;refine(within_yes R.m 1 2147483647 _ H1.out).mono ?_;rintro e w1 ⟨rfl,rfl⟩;go_wp2_with fail;refine(within_yes R.l 1 2147483647 _ H2.out).mono ?_;rintro e w1 ⟨rfl,rfl⟩;go_wp2_with fail;refine(within_yes R.p 0 4294967295 _ H3.out).mono ?_;rintro e w1 ⟨rfl,rfl⟩;go_wp2_with fail;refine(within_no n 1 6 _ H4.out).mono ?_;rintro e w1 ⟨rfl,rfl⟩;go_wp2;go_ret;exact⟨by rw[HF.out];rfl,HK1.out⟩
   ·have H1:=hide h1;have H2:=hide h2;have H3:=hide h3;clear h h1 h2 h3;go_enter Tryz.func134,Tryz.ntmps134;go_wp2_with fail;refine(within_yes R.m 1 2147483647 _ H1.out).mono ?_;rintro e w1 ⟨rfl,rfl⟩;go_wp2_with fail;refine(within_yes R.l 1 2147483647 _ H2.out).mono ?_;rintro e w1 ⟨rfl,rfl⟩;go_wp2_with fail;refine(within_no R.p 0 4294967295 _ H3.out).mono ?_;rintro e w1 ⟨rfl,rfl⟩;go_wp2;go_ret;exact⟨by rw[HF.out];rfl,HK1.out⟩
  ·have H1:=hide h1;have H2:=hide h2;clear h h1 h2;go_enter Tryz.func134,Tryz.ntmps134;go_wp2_with fail;refine(within_yes R.m 1 2147483647 _ H1.out).mono ?_;rintro e w1 ⟨rfl,rfl⟩;go_wp2_with fail;refine(within_no R.l 1 2147483647 _ H2.out).mono ?_;rintro e w1 ⟨rfl,rfl⟩;go_wp2;go_ret;exact⟨by rw[HF.out];rfl,HK1.out⟩
 ·have H1:=hide h1;clear h h1;go_enter Tryz.func134,Tryz.ntmps134;go_wp2_with fail;refine(within_no R.m 1 2147483647 _ H1.out).mono ?_;rintro e w1 ⟨rfl,rfl⟩;go_wp2;go_ret;exact⟨by rw[HF.out];rfl,HK1.out⟩

theorem rmay_good (R:Rc)(L A:Option Addr)(n c k d:Nat)(w:World)(h:RcAt w L n A k R)(h1:1≤R.m∧R.m≤2147483647)(h2:1≤R.l∧R.l≤2147483647)(h3:0≤R.p∧R.p≤4294967295)(h4:1≤n∧n≤6):
  Calls Tryz.prog 134 #[.agg #[.int .i64 R.m,.int .i64 R.l,.int .i64 R.p,.slice L n c,.slice A k d]] w fun e w'=>e= .returned (.bool R.may)∧Kept [] w w':=by
 have hk1:=(Kept.refl [] w).alloc (.cells #[.int .i64 R.m,.int .i64 R.l,.int .i64 R.p,.slice L n c,.slice A k d] 111);have hb1:=Blk.new w 111 #[.int .i64 R.m,.int .i64 R.l,.int .i64 R.p,.slice L n c,.slice A k d];obtain⟨g,hg⟩:∃ g,w.heap.size=g:=⟨_,rfl⟩;obtain⟨w1,hw1⟩:∃ w1,w.alloc (.cells #[.int .i64 R.m,.int .i64 R.l,.int .i64 R.p,.slice L n c,.slice A k d] 111)=w1:=⟨_,rfl⟩;rw[hg]at hb1;have hr1:=h.kept hk1;rw[hw1]at hb1 hk1 hr1;have f0:=hb1.cell 0;have f1:=hb1.cell 1;have f2:=hb1.cell 2;have f3:=hb1.cell 3;have HB1:=hide hb1;have HK1:=hide hk1;have HR1:=hide hr1;have HOK:=hide (ok_iff R);have HMI:Hid (allMay R.its→mayIts R.its=true):=hide (fun ha=>by unfold mayIts;rw[h.hn,decide_eq_true h4,decide_eq_true ha];rfl);have HN:=hide h.hn;have HKN:=hide h.hk;have H1:=hide h1;have H2:=hide h2;have H3:=hide h3;have H4:=hide (show(1:Int)≤n∧(n:Int)≤6 by omega);have hn6:=h4.2;clear h h1 h2 h3 h4 hb1 hk1 hr1;go_enter Tryz.func134,Tryz.ntmps134;go_wp2_with fail;refine(within_yes R.m 1 2147483647 _ H1.out).mono ?_;rintro e w2 ⟨rfl,rfl⟩;go_wp2_with fail;refine(within_yes R.l 1 2147483647 _ H2.out).mono ?_;rintro e w2 ⟨rfl,rfl⟩;go_wp2_with fail;refine(within_yes R.p 0 4294967295 _ H3.out).mono ?_;rintro e w2 ⟨rfl,rfl⟩;go_wp2_with fail;refine(within_yes n 1 6 _ H4.out).mono ?_;rintro e w2 ⟨rfl,rfl⟩;clear f0 f1 f2 f3;go_wp2
 go_loopw [4,3] (fun i x wr=>∃ j q:Nat,j≤n∧q≤j∧i= .int .i64 j∧x= .int .i64 q∧Hid (allMay (R.its.take j))∧Hid (count (R.its.take j)=q)∧Hid (Kept [] w1 wr)) (fun i x wr=>n-(intOf i).toNat)
 case atStart=>exact⟨0,0,by omega,by omega,rfl,rfl,hide (by simp [allMay]),hide rfl,hide (Kept.refl _ _)⟩
 case round=>
  obtain⟨j,q,hj,hq,rfl,rfl,HM2,HC2,HK2⟩:=hrel;have f3:=(HK2.out.blk HB1.out (by simp)).cell 3
  by_cases hlt:j<n
  ·obtain⟨i,hi⟩:∃ i,R.its[j]? = some i:=⟨_,List.getElem?_eq_getElem (by rw[HN.out];exact hlt)⟩;obtain⟨ad,rfl,_,c0,c1,c2,c3⟩:=(HR1.out.its.kept HK2.out (by simp)).at_ hi;have HI:=hide hi;clear hi;go_wp2_with fail;refine(rmay_any i _).mono ?_;rintro e w3 ⟨rfl,hk⟩;have HK3:=hide (HK2.out.trans hk (by simp));clear hk f3 c0 c1 c2 c3
   by_cases hm:i.may=true
   ·rw[hm];have hM:=hide (allMay_snoc _ i HM2.out hm);have HM3:Hid (allMay (R.its.take (j+1))):=hide (by rw[List.take_add_one,HI.out];exact hM.out);have f3:=(HK3.out.blk HB1.out (by simp)).cell 3;obtain⟨ad',had,_,c0,c1,c2,c3⟩:=(HR1.out.its.kept HK3.out (by simp)).at_ HI.out;cases had;clear hm hM;go_wp2_with fail;refine(rloaded_any i _).mono ?_;rintro e w4 ⟨rfl,hk⟩;have HK4:=hide (HK3.out.trans hk (by simp));clear hk f3 c0 c1 c2 c3
    by_cases hl:i.loaded=true
    ·rw[hl];have HC4:=hide (count_some R.its j i q HI.out HC2.out hl);clear hl;go_wp2;go_roundw
     case rel=>exact⟨j+1,q+1,by omega,by omega,by go_num,by go_num,HM3,HC4,HK4⟩
     case measure=>simp [intOf];omega
    ·have hl':=(Bool.not_eq_true _).mp hl;rw[hl'];have HC4:=hide (count_none R.its j i q HI.out HC2.out hl');clear hl hl';go_wp2;go_roundw
     case rel=>exact⟨j+1,q,by omega,by omega,by go_num,rfl,HM3,HC4,HK4⟩
     case measure=>simp [intOf];omega
   ·have hm':=(Bool.not_eq_true _).mp hm;rw[hm'];have HF:Hid (R.may=false):=hide ((Rc.may_no R).2 (fun ho=>hm ((ok_items ho).2 i (List.mem_of_getElem? HI.out))));clear hm hm';go_wp2;go_ret;exact⟨by rw[HF.out];rfl,HK1.out.trans HK3.out (by simp)⟩
  ·obtain rfl:j=n:=by omega
   have hfull:R.its.take j=R.its:=List.take_of_length_le (by rw[HN.out];exact Nat.le_refl _);rw[hfull]at HM2 HC2;have f4:=(HK2.out.blk HB1.out (by simp)).cell 4;have HP2:=hide (HR1.out.bks.kept HK2.out)
   by_cases hqk:q=k
   ·subst hqk;clear hfull;go_wp2
    go_loop [5] (fun i=>∃ y:Nat,y≤q∧i= .int .i64 y∧Hid (all64 (R.bks.take y))) (fun i=>q-(intOf i).toNat)
    case atStart=>exact⟨0,by omega,rfl,hide (by intro b hb;simp at hb)⟩
    case round=>
     obtain⟨y,hy,rfl,HW⟩:=hrel
     by_cases hlt2:y<q
     ·obtain⟨b,hb⟩:∃ b,R.bks[y]? = some b:=⟨_,List.getElem?_eq_getElem (by rw[HKN.out];exact hlt2)⟩;obtain⟨ad,Ai,ci,rfl,hc,hm,_⟩:=HP2.out.at_ y _ hb;have HB:=hide hb;clear hb
      by_cases h64:b.length=64
      ·have HW2:=hide (all64_snoc R.bks y b HW.out HB.out h64);rw[h64]at hc;clear h64 hm;go_wp2
       go_round
       case rel=>exact⟨y+1,by omega,by go_num,HW2⟩
       case measure=>simp [intOf];omega
      ·have HF:Hid (R.may=false):=hide ((Rc.may_no R).2 (fun ho=>h64 (ho.2.2.2.2.2.2 b (List.mem_of_getElem? HB.out))))
       have hne:((b.length:Int) != 64)=true:=by rw[bne_iff_ne];omega
       clear h64;go_wp2;go_ret;exact⟨by rw[HF.out];rfl,HK1.out.trans HK2.out (by simp)⟩
     ·obtain rfl:y=q:=by omega
      have HT:Hid (R.may=true):=hide ((Rc.may_iff R).2 (HOK.out.2 ⟨H1.out,H2.out,H3.out,HMI.out HM2.out,by rw[HC2.out,HKN.out],by
       have:=HW.out
       rwa [List.take_of_length_le (by rw[HKN.out];exact Nat.le_refl _)]at this⟩))
      go_wp2;go_ret;exact⟨by rw[HT.out];rfl,HK1.out.trans HK2.out (by simp)⟩
   ·have HF:Hid (R.may=false):=hide ((Rc.may_no R).2 (fun ho=>hqk (by rw[←HC2.out,ho.2.2.2.2.2.1,HKN.out])))
    have hne:((q:Int) != (k:Int))=true:=by rw[bne_iff_ne];omega
    clear hqk hfull;go_wp2;go_ret;exact⟨by rw[HF.out];rfl,HK1.out.trans HK2.out (by simp)⟩

theorem rmay_any' (R:Rc)(L A:Option Addr)(n c k d:Nat)(w:World)(h:RcAt w L n A k R):
  Calls Tryz.prog 134 #[.agg #[.int .i64 R.m,.int .i64 R.l,.int .i64 R.p,.slice L n c,.slice A k d]] w fun e w'=>e= .returned (.bool R.may)∧Kept [] w w':=by
 by_cases hh:(1≤R.m∧R.m≤2147483647)∧(1≤R.l∧R.l≤2147483647)∧(0≤R.p∧R.p≤4294967295)∧(1≤n∧n≤6)
 ·exact rmay_good R L A n c k d w h hh.1 hh.2.1 hh.2.2.1 hh.2.2.2
 ·exact rmay_bad R L A n c k d w h.hn hh
end Go.Proofs.YtjkmahmoclobmaaGreat.record
namespace Go.Proofs.YtjkmahmoclobmaaGreat.record
open Go.RowKit mem base row rowBack fill crc crcMath super item ref
theorem rmore_at (s:Nat)(A:Option Addr)(n c:Nat)(bs:List UInt8)(w:World)(hs:s≤4294967295)(hv:Vals w [] A (bs.map B))(hl:bs.length=n)(hn:n≤140737488355328):
  Calls Tryz.prog 137 #[.int .i64 s,.slice A n c] w fun e w'=>e= .returned (.int .i64 (more s bs))∧w=w':=by
 have h:=rmore_any s A n c bs w hv hl hn;rw[sum_mod s hs]at h;exact h
theorem put_60 (bs:List UInt8)(y:Int)(h:64≤bs.length)(hf:fitsW (4:Nat) y=true):(Row.put ⟨bs,60⟩ 4 [y]).2=⟨bs.take 60++(bytesOf 4 [y]++bs.drop 64),64⟩:=by
 have e:Row.put ⟨bs,60⟩ 4 [y]=(true,⟨over bs 60 (bytesOf 4 [y]),64⟩):=if_pos ⟨rfl,by simpa using hf,by simp;omega⟩;rw[e];refine Row.same ⟨?_,rfl⟩;simp only[over,bytesOf_length,List.length_cons,List.length_nil]
theorem rbegun_at (n:Nat)(q:Int)(a b:UInt8)(w:World)(h2:2≤n)(hn:n≤65536)(hq:q=(n:Int)):
  Calls Tryz.prog 129 #[.int .i64 q,B a,B b] w fun e w'=>∃ p g,e= .returned (.pointer (some ⟨p,0,none⟩))∧w.heap.size≤p∧w.heap.size≤g∧RefAt w' p g (rowF n [a,b])∧Kept [] w w':=by
 subst hq;exact rbegun_any n a b w h2 hn
def Rc.blank (R:Rc):List UInt8:=R.body++List.replicate 4 0
theorem blank_len (R:Rc)(h:R.its.length≤6):R.blank.length=64:=by simp [Rc.blank,R.body_len h]
theorem blank_row (R:Rc)(k:Nat)(h:R.its.length≤6):(⟨(rowF (64*(1+k)) R.head).bs,64⟩:Row)=rowF (64*(1+k)) (R.blank++[]):=by
 have h1:=blank_len R h;have h2:=R.head_len;rw[List.append_nil];refine Row.same ⟨?_,h1.symm⟩;show R.head++List.replicate (64*(1+k)-R.head.length) 0=R.blank++List.replicate (64*(1+k)-R.blank.length) 0;rw[h1];unfold Rc.blank Rc.body;rw[List.append_assoc,List.append_assoc,List.replicate_append_replicate,List.replicate_append_replicate]
 congr 2
 omega

theorem bytes_put (R:Rc)(h:R.its.length≤6):(R.blank++R.bks.flatten).take 60++(bytesOf 4 [(R.sum:Int)]++(R.blank++R.bks.flatten).drop 64)=R.bytes:=by
 rw[List.drop_left' (blank_len R h)];unfold Rc.blank;rw[List.append_assoc,List.take_left' (R.body_len h)]
 unfold Rc.bytes Rc.first Rc.tail
 rw[List.append_assoc]
 rfl
theorem rbytes_no (R:Rc)(L A:Option Addr)(n c k d:Nat)(w:World)(h:RcAt w L n A k R)(hm:R.may=false):
  Calls Tryz.prog 68 #[.agg #[.int .i64 R.m,.int .i64 R.l,.int .i64 R.p,.slice L n c,.slice A k d]] w fun e w'=>e= .returned (.tuple #[.slice none 0 0,.int .i64 0,.int .i64 1])∧Kept [] w w':=by
 have hk1:=(Kept.refl [] w).alloc (.cells #[.int .i64 R.m,.int .i64 R.l,.int .i64 R.p,.slice L n c,.slice A k d] 111);have HR:=hide (h.kept hk1);have HK1:=hide hk1;have HM:=hide hm;clear hk1 h hm;go_enter Tryz.func68,Tryz.ntmps68;go_wp2_with fail;refine(rmay_any' R L A n c k d _ HR.out).mono ?_;rintro e w2 ⟨rfl,hk⟩;rw[HM.out];have HK2:=hide (HK1.out.trans hk (by simp));clear hk;go_wp2;go_ret3;exact⟨rfl,HK2.out⟩

theorem rbytes_far (R:Rc)(L A:Option Addr)(n c k d:Nat)(w:World)(h:RcAt w L n A k R)(ho:R.ok):
  Calls Tryz.prog 68 #[.agg #[.int .i64 R.m,.int .i64 R.l,.int .i64 R.p,.slice L n c,.slice A k d]] w fun e w'=>
   ∃ P cp,e= .returned (.tuple #[.slice P (64*(1+k)) cp,.int .i64 R.sum,.int .i64 0])∧64*(1+k)≤cp∧(∀ S:List Nat,(∀ i∈S,i<w.heap.size)→Vals w' S P (R.bytes.map B))∧Kept [] w w':=by
 have hk1:=(Kept.refl [] w).alloc (.cells #[.int .i64 R.m,.int .i64 R.l,.int .i64 R.p,.slice L n c,.slice A k d] 111);have hb1:=Blk.new w 111 #[.int .i64 R.m,.int .i64 R.l,.int .i64 R.p,.slice L n c,.slice A k d];obtain⟨q,hq⟩:∃ q,w.heap.size=q:=⟨_,rfl⟩;rw[hq]at hb1
 have hk6:k≤6:=by rw[←h.hk];exact ho.few
 have hn6:n≤6:=by rw[←h.hn];exact ho.2.2.2.1.2
 have H64:=hide ho.2.2.2.2.2.2;have HLEN:=hide ho.2.2.2.1.2;have HN:=hide h.hn;have HKN:=hide h.hk;have HM:=hide (R.may_iff.2 ho);have HO:=hide ho;have HF:=hide (fits_rec ho);have HE:Hid (item.encode R.its=(laid R.its,0)):=hide (item.encode_yes _ (by rw[h.hn];exact hn6) ho.2.2.2.2.1);have HLL:=hide (show(laid R.its).length=7*n by rw[laid_len,h.hn]);have HR1:=hide (h.kept hk1);have HB1:=hide hb1;have HK1:=hide hk1;clear hb1 hk1 h ho;go_enter Tryz.func68,Tryz.ntmps68;go_wp2_with fail;refine(rmay_any' R L A n c k d _ HR1.out).mono ?_;rintro e w2 ⟨rfl,hk⟩;rw[HM.out];have HR2:=hide (HR1.out.kept hk);have HB2:=hide (hk.blk HB1.out (by simp));have HK2:=hide (HK1.out.trans hk (by simp));have f4:=HB2.out.cell 4;clear hk HR1 HB1 HK1;go_wp2_with fail;refine(rbegun_at (64*(1+k)) _ 75 82 _ (by omega) (by omega) (by omega)).mono ?_;rintro e w3 ⟨p,g,rfl,hp,hg,hr,hk⟩;have HF3:=hide hr;have HB3:=hide (hk.blk HB2.out (by simp));have HR3:=hide (HR2.out.kept hk);have HK3:=hide (HK2.out.trans hk (by simp));have HPW:=hide (show w.heap.size≤p∧w.heap.size≤g by have:=HK2.out.size;omega);have HPW2:=hide (show w2.heap.size≤p∧w2.heap.size≤g from⟨hp,hg⟩);have HK23:=hide hk
 have hqp:q<p:=by have:=HB2.out.lt;omega
 have hqg:q<g:=by have:=HB2.out.lt;omega
 have hp3:=hr.lt;have hg3:=hr.blt;clear hr hk hp hg HB2 HK2 f4;have f0:=HB3.out.cell 0;have f1:=HB3.out.cell 1;have f2:=HB3.out.cell 2;go_wp2_with fail;refine(rput_at p g _ 4 (some ⟨w3.heap.size,0,none⟩) [R.m,R.l,R.p] 3 3 _ rfl (HF3.out.kept (S:=[]) ((Kept.refl _ w3).alloc _) (by simp) (by simp)) (Vals.lit w3 [p,g] _ _ _ ([R.m,R.l,R.p].map I) rfl (by simp;omega)) (by omega)).mono ?_;rintro e w4 ⟨rfl,hr,hk⟩;rw[show((4:Int))=((4:Nat):Int)by rfl,rowF_put (64*(1+k)) _ 4 _ rfl HF.out.1 (by simp;omega)]at hr ⊢;have hs4:=hk.size;have HF4:=hide hr;have HB4:=hide (Kept.lit_blk _ hk HB3.out (by simp;omega));have HK4:=hide (HK3.out.lit _ hk (by have:=HPW.out;simp;omega));have HK24:=hide (HK23.out.lit _ hk (by have:=HPW2.out;simp;omega))
 have hs4:w3.heap.size<w4.heap.size:=by simp at hs4;omega
 clear hr hk f0 f1 f2 HF3 HB3 HK3 HR3 HK23;have f3:=HB4.out.cell 3;have f4:=HB4.out.cell 4;have HF2:Hid (∀ m∈[(n:Int),(k:Int)],fitsW (1:Nat) m=true):=hide (by have:=HF.out.2;rwa [HN.out,HKN.out]at this);go_wp2_with fail;refine(rput_at p g _ 1 (some ⟨w4.heap.size,0,none⟩) [(n:Int),(k:Int)] 2 2 _ rfl (HF4.out.kept (S:=[]) ((Kept.refl _ w4).alloc _) (by simp) (by simp)) (Vals.lit w4 [p,g] _ _ _ ([(n:Int),(k:Int)].map I) rfl (by simp;omega)) (by omega)).mono ?_;rintro e w5 ⟨rfl,hr,hk⟩;rw[show((1:Int))=((1:Nat):Int)by rfl,rowF_put (64*(1+k)) _ 1 _ rfl HF2.out (by simp [bytesOf_length];omega)]at hr ⊢;have hs5:=hk.size;have HF5:=hide hr;have HB5:=hide (Kept.lit_blk _ hk HB4.out (by simp;omega));have HK5:=hide (HK4.out.lit _ hk (by have:=HPW.out;simp;omega));have HK25:=hide (HK24.out.lit _ hk (by have:=HPW2.out;simp;omega));clear hr hk f3 f4 HF4 HB4 HK4 HK24;have f3:=HB5.out.cell 3;go_wp2_with fail;refine(item.rbytes_far L n c R.its _ (HR2.out.kept HK25.out).its HN.out).mono ?_;rintro e w6 ⟨P6,n6,c6,rfl,hn6',hv6,hk⟩;rw[HE.out]at hn6' hv6 ⊢;have hl6:=HLL.out
 obtain rfl:n6=7*n:=by rw[hn6'];exact hl6
 have hpq5:=HF5.out.lt;have hgq5:=HF5.out.blt;have HV6:=hide (hv6 [p,g] (by simp;omega));have HF6:=hide (HF5.out.kept hk (by simp) (by simp));have HB6:=hide (hk.blk HB5.out (by simp));have HK6:=hide (HK5.out.trans hk (by simp));have HK26:=hide (HK25.out.trans hk (by simp));clear hk hn6' hv6 f3 hl6 HF5 HB5 HK5 HK25;go_wp2_with fail;refine(rlay_at p g _ P6 (laid R.its) (7*n) c6 _ HLL.out HF6.out HV6.out).mono ?_;rintro e w7 ⟨rfl,hr,hk⟩
 have hhd:[75,82]++bytesOf 4 [R.m,R.l,R.p]++bytesOf 1 [(n:Int),(k:Int)]++laid R.its=R.head:=by
  unfold Rc.head;rw[HN.out,HKN.out]
 rw[rowF_lay (64*(1+k)) _ _ (by have:=HLL.out;simp [bytesOf_length];omega),hhd]at hr;rw[rowF_lay (64*(1+k)) _ _ (by have:=HLL.out;simp [bytesOf_length];omega)];have hlenN:(rowF (64*(1+k)) R.head).bs.length=64*(1+k):=rowF_len _ _ (by rw[R.head_len,HN.out];omega);have HF7:=hide hr;have HB7:=hide (hk.blk HB6.out (by simp;omega));have HK7:=hide (HK6.out.trans hk (by have:=HPW.out;simp;omega));have HK27:=hide (HK26.out.trans hk (by have:=HPW2.out;simp;omega));have e1:=hr.c1;have e2:=hr.f1;have hg8:=hr.goto 64 (by rw[hlenN];omega) 64 rfl;rw[blank_row R k HLEN.out]at hg8;have hk8:=(Kept.refl [p,g] w7).set_ (b:=p) (.inl (by simp)) 1 (.int .i64 64);have HF8:Hid (RefAt (w7.setCell ⟨p,1,none⟩ (.int .i64 64)) p g (rowF (64*(1+k)) (R.blank++(R.bks.take 0).flatten))):=hide hg8;have HB8:=hide (hk8.blk HB7.out (by simp;omega));have HK8:=hide (HK7.out.trans hk8 (by have:=HPW.out;simp;omega));have HK28:=hide (HK27.out.trans hk8 (by have:=HPW2.out;simp;omega));have hpg:g≠p:=hr.ne_;clear hr hk hhd hg8 hk8 HF6 HV6 HB6 HK6 HK26 HB7 HK7 HK27 HF7 hlenN;have HHB:=hide (blank_len R HLEN.out);go_wp2
 go_loopw [8] (fun i wr=>∃ j:Nat,j≤k∧i= .int .i64 j∧Hid (RefAt wr p g (rowF (64*(1+k)) (R.blank++(R.bks.take j).flatten)))∧Hid (Blk wr q 111 #[.int .i64 R.m,.int .i64 R.l,.int .i64 R.p,.slice L n c,.slice A k d])∧Hid (Kept [] w wr)∧Hid (Kept [] w2 wr)) (fun i wr=>k-(intOf i).toNat)
 case atStart=>exact⟨0,by omega,rfl,HF8,HB8,HK8,HK28⟩
 case round=>
  obtain⟨j,hj,rfl,HFr,HBr,HKr,HK2r⟩:=hrel;have f4:=HBr.out.cell 4
  by_cases hlt2:j<k
  ·obtain⟨bl,hbl⟩:∃ bl,R.bks[j]? = some bl:=⟨_,List.getElem?_eq_getElem (by rw[HKN.out];exact hlt2)⟩;have h64:bl.length=64:=H64.out bl (List.mem_of_getElem? hbl);obtain⟨ad,Ai,ci,hA,hc2,hle,hvi⟩:=HR2.out.bks.at_ j _ hbl;clear hle;have hc:=HK2r.out.cell hc2 (by simp);have HVF:=hide (hvi.far HK2r.out (S:=[p,g]) (by have:=HPW2.out;simp;omega));have HBL:=hide hbl;have HH64:=hide h64;rw[h64]at hc;clear hvi hbl h64 hc2;subst hA;go_wp2_with fail;refine(rlay_at p g _ Ai bl 64 ci _ HH64.out HFr.out HVF.out).mono ?_;rintro e w10 ⟨rfl,hr,hk⟩;rw[rowF_lay _ _ _ (by rw[List.length_append,HHB.out,flat_take_len R.bks H64.out j k HKN.out (by omega),HH64.out];omega)]at hr ⊢
   have HF10:Hid (RefAt w10 p g (rowF (64*(1+k)) (R.blank++(R.bks.take (j+1)).flatten))):=hide (by
    rw[flat_snoc R.bks j bl HBL.out,←List.append_assoc]
    exact hr)
   have HB10:=hide (hk.blk HBr.out (by simp;omega));have HK10:=hide (HKr.out.trans hk (by have:=HPW.out;simp;omega));have HK210:=hide (HK2r.out.trans hk (by have:=HPW2.out;simp;omega));clear hr hk f4;go_wp2;go_roundw
   case rel=>exact⟨j+1,by omega,by go_num,HF10,HB10,HK10,HK210⟩
   case measure=>simp [intOf];omega
  ·obtain rfl:j=k:=by omega
   have hfull:R.bks.take j=R.bks:=List.take_of_length_le (by rw[HKN.out];exact Nat.le_refl _)
   have hfl:R.bks.flatten.length=64*j:=by rw[flat_len _ H64.out,HKN.out]
   have hrow:=HFr.out;rw[hfull]at hrow;have hbs:(rowF (64*(1+j)) (R.blank++R.bks.flatten)).bs=R.blank++R.bks.flatten:=rowF_full _ _ (by rw[List.length_append,HHB.out,hfl];omega)
   have hbl:(rowF (64*(1+j)) (R.blank++R.bks.flatten)).bs.length=64*(1+j):=by rw[hbs,List.length_append,HHB.out,hfl];omega
   have c0:=hrow.c0;rw[hbl]at c0;have hvr:=hrow.vals (S:=[]) (by simp);rw[hbs]at hvr
   have hv60:Vals wr [] (some ⟨g,0,none⟩) (R.body.map B):=by
    have:=hvr.first 60
    rw[←List.map_take]at this;unfold Rc.blank at this
    rwa [List.append_assoc,List.take_left' (R.body_len HLEN.out)]at this
   have HV60:=hide hv60;have HB60:=hide (R.body_len HLEN.out);have HROW:=hide hrow;have HVR:=hide hvr;have HBS:=hide hbs;have HBLN:=hide hbl;have HFL:=hide hfl;clear hfull hrow hvr hv60 hbs hbl hfl;have HC0:=hide c0
   by_cases hk0:j=0
   ·subst hk0;have HT0:Hid (R.bks=[]):=hide (List.eq_nil_of_length_eq_zero HKN.out);go_wp2
    -- REGION zero
    refine wp_region_noPanic ?_;refine wp_region_held_drew (S:=fun W=>W=wr.drew∧W.cell? ⟨p,0,none⟩=some (.slice (some ⟨g,0,none⟩) 64 64)) (by kernel_rfl) (by exact⟨rfl,c0⟩) (fun hHeld=> ?_);refine tK 0 63 rfl ?_;refine tK 1 64 rfl ?_;refine tK 2 65 rfl ?_;refine tK 3 66 rfl ?_;refine tK 4 67 rfl ?_;refine tK 6 69 rfl ?_;refine tK 7 70 rfl ?_;refine tK 8 71 rfl ?_;refine tK 9 72 rfl ?_;refine tK 10 73 rfl ?_;refine hO 5 (some 68) rfl fun K hK=> ?_;go_simp;refine(rsum_any (some ⟨g,0,none⟩) 60 64 R.body (World.drew wr) HV60.out HB60.out (by omega)).mono ?_;rintro e w11 ⟨rfl,rfl⟩;refine hK.out _ _ (by exact hHeld) (fun hHeld=>tS ?_);clear hK K;refine hO 11 (some 74) rfl fun K hK=> ?_;go_simp;refine(rmore_at (more 0 R.body) _ 0 _ [] _ (more_le _ _) (Vals.nil _ _ _) rfl (by omega)).mono ?_;rintro e w12 ⟨rfl,rfl⟩;refine hK.out _ _ (by exact hHeld) (fun hHeld=>tS ?_);clear hK K;refine tK 12 9 rfl ?_;refine wpAnyH_done (by kernel_rfl) ?_ _;refine NoPanic.normal ?_
    -- END
    have hsum:more (more 0 R.body) []=R.sum:=by
     unfold Rc.sum Rc.tail;rw[HT0.out,more_more,List.flatten_nil]
    rw[hsum];have hrd:=HROW.out.drew;have e1':=hrd.c1;have e2':=hrd.f1;have hgo:=hrd.goto 60 (by rw[HBLN.out];omega) 60 rfl;rw[HBS.out]at hgo;have HGO:=hide hgo;have HKG:=hide ((HKr.out.drewN 1).set_ (b:=p) (.inr HPW.out.1) 1 (.int .i64 60));obtain⟨y,hy⟩:∃ y:Nat,R.sum=y:=⟨_,rfl⟩;have HY:=hide hy
    have HPUT:Hid ((Row.put ⟨R.blank++R.bks.flatten,60⟩ 4 [(y:Int)]).2=⟨R.bytes,64⟩):=hide (by
     rw[←hy,put_60 _ (R.sum:Int) (by rw[List.length_append,HHB.out];omega) (show fitsW (4:Nat) (R.sum:Int)=true from sum_fits _),bytes_put R HLEN.out])
    have HBL2:=hide (show R.bytes.length=64*(1+0)by rw[R.bytes_len HO.out,HKN.out]);rw[hy];clear hrd hgo hsum hy;go_wp2_with fail;refine(rone_any p g _ _ 4 (y:Int) _ HGO.out HPUT.out).mono ?_;rintro e w13 ⟨rfl,hr13,hk13⟩;have g0:=hr13.c0;rw[HBL2.out]at g0;have HV13:Hid (∀ S:List Nat,(∀ i∈S,i<w.heap.size)→Vals w13 S (some ⟨g,0,none⟩) (R.bytes.map B)):=hide (fun S hS=>hr13.vals (S:=S) (fun hm=>by have h1:=hS _ hm;have h2:=HPW.out;omega));have HK13:=hide (HKG.out.trans hk13 (by have:=HPW.out;simp;omega));clear hr13 hk13;go_wp2;go_ret3;exact⟨_,_,by rw[HY.out];rfl,Nat.le_refl _,HV13.out,HK13.out⟩
   ·have hj1:1≤j:=by omega
    have HVT:Hid (Vals wr [] (some ⟨g,64,none⟩) (R.bks.flatten.map B)):=hide (by
     have:=HVR.out.cut 64 (64*j)
     rw[←List.map_drop,←List.map_take,List.drop_left' HHB.out,List.take_of_length_le (by rw[HFL.out];exact Nat.le_refl _)]at this
     exact this)
    obtain⟨N,hN⟩:∃ N,64*(1+j)=N:=⟨_,rfl⟩;rw[hN]at c0
    have hN1:(60:Int)≤N:=by omega
    have hN3:(64:Int)≤N:=by omega
    have hN2:¬(N=64):=by omega
    have HNN:=hide hN;have HNJ:=hide (show N-64=64*j by omega)
    have hNs:N≤1000:=by omega
    clear hN;go_wp2
    -- REGION some
    refine wp_region_noPanic ?_;refine wp_region_held_drew (S:=fun W=>W=wr.drew∧W.cell? ⟨p,0,none⟩=some (.slice (some ⟨g,0,none⟩) N N)) (by kernel_rfl) (by exact⟨rfl,c0⟩) (fun hHeld=> ?_);refine tK 0 63 rfl ?_;refine tK 1 64 rfl ?_;refine tK 2 65 rfl ?_;refine tK 3 66 rfl ?_;refine tK 4 67 rfl ?_;refine tK 6 69 rfl ?_;refine tK 7 70 rfl ?_;refine tK 8 71 rfl ?_;refine tK 9 72 rfl ?_;refine tK 10 73 rfl ?_;refine hO 5 (some 68) rfl fun K hK=> ?_;go_simp;refine(rsum_any (some ⟨g,0,none⟩) 60 N R.body (World.drew wr) HV60.out HB60.out (by omega)).mono ?_;rintro e w11 ⟨rfl,rfl⟩;refine hK.out _ _ (by exact hHeld) (fun hHeld=>tS ?_);clear hK K;refine hO 11 (some 74) rfl fun K hK=> ?_;go_simp;refine(rmore_at (more 0 R.body) (some ⟨g,64,none⟩) _ _ R.bks.flatten (World.drew wr) (more_le _ _) HVT.out (by rw[HFL.out];exact HNJ.out.symm) (by omega)).mono ?_;rintro e w12 ⟨rfl,rfl⟩;refine hK.out _ _ (by exact hHeld) (fun hHeld=>tS ?_);clear hK K;refine tK 12 9 rfl ?_;refine wpAnyH_done (by kernel_rfl) ?_ _;refine NoPanic.normal ?_
    -- END
    have hsum:more (more 0 R.body) R.bks.flatten=R.sum:=by
     rw[more_more]
     rfl
    rw[hsum];have hrd:=HROW.out.drew;have e1':=hrd.c1;have e2':=hrd.f1;have hgo:=hrd.goto 60 (by rw[HBLN.out];omega) 60 rfl;rw[HBS.out]at hgo;have HGO:=hide hgo;have HKG:=hide ((HKr.out.drewN 1).set_ (b:=p) (.inr HPW.out.1) 1 (.int .i64 60));obtain⟨y,hy⟩:∃ y:Nat,R.sum=y:=⟨_,rfl⟩;have HY:=hide hy
    have HPUT:Hid ((Row.put ⟨R.blank++R.bks.flatten,60⟩ 4 [(y:Int)]).2=⟨R.bytes,64⟩):=hide (by
     rw[←hy,put_60 _ (R.sum:Int) (by rw[List.length_append,HHB.out];omega) (show fitsW (4:Nat) (R.sum:Int)=true from sum_fits _),bytes_put R HLEN.out])
    have HBL2:=hide (show R.bytes.length=64*(1+j)by rw[R.bytes_len HO.out,HKN.out]);rw[hy];clear hrd hgo hsum hy;go_wp2_with fail;refine(rone_any p g _ _ 4 (y:Int) _ HGO.out HPUT.out).mono ?_;rintro e w13 ⟨rfl,hr13,hk13⟩;have g0:=hr13.c0;rw[HBL2.out]at g0;have HV13:Hid (∀ S:List Nat,(∀ i∈S,i<w.heap.size)→Vals w13 S (some ⟨g,0,none⟩) (R.bytes.map B)):=hide (fun S hS=>hr13.vals (S:=S) (fun hm=>by have h1:=hS _ hm;have h2:=HPW.out;omega));have HK13:=hide (HKG.out.trans hk13 (by have:=HPW.out;simp;omega));clear hr13 hk13;go_wp2;go_ret3;exact⟨_,_,by rw[HY.out];rfl,Nat.le_refl _,HV13.out,HK13.out⟩
theorem rbytes_yes (R:Rc)(L A:Option Addr)(n c k d:Nat)(w:World)(h:RcAt w L n A k R)(ho:R.ok):
  Calls Tryz.prog 68 #[.agg #[.int .i64 R.m,.int .i64 R.l,.int .i64 R.p,.slice L n c,.slice A k d]] w fun e w'=>
   ∃ P cp,e= .returned (.tuple #[.slice P (64*(1+k)) cp,.int .i64 R.sum,.int .i64 0])∧Vals w' [] P (R.bytes.map B)∧Kept [] w w':=
 (rbytes_far R L A n c k d w h ho).mono fun _ _ ⟨P,cp,h1,_,h2,h3⟩=>⟨P,cp,h1,h2 [] (by simp),h3⟩

theorem rbytes_any (R:Rc)(L A:Option Addr)(n c k d:Nat)(w:World)(h:RcAt w L n A k R):
  Calls Tryz.prog 68 #[.agg #[.int .i64 R.m,.int .i64 R.l,.int .i64 R.p,.slice L n c,.slice A k d]] w fun e w'=>
   ∃ P n' cp,e= .returned (.tuple #[.slice P n' cp,.int .i64 (encode R).2.1,.int .i64 (encode R).2.2])∧n'=(encode R).1.length∧Vals w' [] P ((encode R).1.map B)∧Kept [] w w':=by
 by_cases hm:R.may=true
 ·have e:encode R=(R.bytes,(R.sum:Int),0):=if_pos hm;rw[e]
  exact(rbytes_yes R L A n c k d w h (R.may_iff.1 hm)).mono fun _ _ ⟨P,cp,h1,h2,h3⟩=>⟨P,_,cp,h1,by rw[Rc.bytes_len (R.may_iff.1 hm),h.hk],h2,h3⟩
 ·have e:encode R=([],0,1):=if_neg hm;rw[e]
  exact(rbytes_no R L A n c k d w h ((Bool.not_eq_true _).mp hm)).mono fun _ _ ⟨h1,h3⟩=>⟨none,0,0,h1,rfl,Vals.nil _ _ _,h3⟩
end Go.Proofs.YtjkmahmoclobmaaGreat.record
namespace Go.Proofs.YtjkmahmoclobmaaGreat.record
open Go.RowKit mem base row rowBack fill crc crcMath super item ref
theorem numAt_one (bs:List UInt8)(p:Nat)(x:UInt8)(h:bs[p]? = some x):numAt bs p 1=(x.toNat:Int):=by
 have hp:=(List.getElem?_eq_some_iff.1 h).1;have e:=(List.getElem?_eq_some_iff.1 h).2;unfold numAt;rw[List.drop_eq_getElem_cons hp,e,List.take_succ_cons,List.take_zero]
 simp [numOf]
theorem startB_iff (bs:List UInt8):startB bs 64 75 82=true↔bs.length=64∧bs.take 2=[75,82]:=by
 unfold startB;rw[Bool.and_eq_true,decide_eq_true_iff,Bool.and_eq_true,beq_iff_eq,beq_iff_eq]
 constructor
 ·rintro⟨h,h2⟩
  exact⟨h,(start_iff bs h).2 h2⟩
 ·rintro⟨h,h2⟩
  exact⟨h,(start_iff bs h).1 h2⟩

theorem rsize_any (A:Option Addr)(n c:Nat)(bs:List UInt8)(w:World)(hv:Vals w [] A (bs.map B))(hl:bs.length=n):
  Calls Tryz.prog 146 #[.slice A n c] w fun e w'=>e= .returned (.int .i64 (sizeOf bs))∧w=w':=by
 have hst:=rstarts_any A n c 64 75 82 bs w hv hl (by omega);unfold B at hst
 by_cases hs:startB bs 64 75 82=true
 ·have h2:=(startB_iff bs).1 hs
  obtain rfl:n=64:=by rw[←hl];exact h2.1
  rw[hs]at hst;have HE:=hide (size_in bs h2.1 h2.2);obtain⟨x,hx⟩:∃ x,bs[14]? = some x:=⟨_,List.getElem?_eq_getElem (by omega)⟩;obtain⟨y,hy⟩:∃ y,bs[15]? = some y:=⟨_,List.getElem?_eq_getElem (by omega)⟩;obtain⟨ad,rfl,_,c0⟩:=hv 14 (B x) (by rw[List.getElem?_map,hx];rfl);obtain⟨ad2,had,_,c1⟩:=hv 15 (B y) (by rw[List.getElem?_map,hy];rfl);cases had;unfold B at c0 c1;rw[add_pos ad 14 (by omega)]at c0;rw[add_pos ad 15 (by omega)]at c1;have hq:=numAt_one bs 14 x hx;have hk:=numAt_one bs 15 y hy;have hx2:=x.toNat_lt;have hy2:=y.toNat_lt;obtain⟨q,hq1⟩:∃ q:Nat,x.toNat=q:=⟨_,rfl⟩;obtain⟨k,hk1⟩:∃ k:Nat,y.toNat=k:=⟨_,rfl⟩;rw[hq1]at c0 hq hx2;rw[hk1]at c1 hk hy2
  have hq2:nOf bs=q:=by unfold nOf;rw[hq];exact Int.toNat_natCast _
  have hk2:kOf bs=k:=by unfold kOf;rw[hk];exact Int.toNat_natCast _
  rw[hq2,hk2]at HE;have HST:=hide hst;clear hst hs h2 hx hy hq hk hq1 hk1 hq2 hk2 hv hl
  by_cases h16:1≤q∧q≤6
  ·have HB:=hide (show(1:Int)≤q∧(q:Int)≤6 by omega)
   by_cases hkq:k≤q
   ·have HE2:Hid (sizeOf bs=1+k):=hide (by rw[HE.out,if_pos ⟨h16,hkq⟩]);have hz:decide (q<k)=false:=decide_eq_false (by omega);clear h16 hkq;go_enter Tryz.func146,Tryz.ntmps146;go_wp2_with fail;refine HST.out.mono ?_;rintro e w1 ⟨rfl,rfl⟩;go_wp2_with fail;refine(base.within_yes q 1 6 _ HB.out).mono ?_;rintro e w1 ⟨rfl,rfl⟩;go_wp2;go_ret;exact⟨by rw[HE2.out];rfl,rfl⟩
   ·have HE2:Hid (sizeOf bs=0):=hide (by rw[HE.out,if_neg (fun hn=>hkq hn.2)]);have hz:decide (q<k)=true:=decide_eq_true (by omega);clear h16 hkq;go_enter Tryz.func146,Tryz.ntmps146;go_wp2_with fail;refine HST.out.mono ?_;rintro e w1 ⟨rfl,rfl⟩;go_wp2_with fail;refine(base.within_yes q 1 6 _ HB.out).mono ?_;rintro e w1 ⟨rfl,rfl⟩;go_wp2;go_ret;exact⟨by rw[HE2.out];rfl,rfl⟩
  ·have HE2:Hid (sizeOf bs=0):=hide (by rw[HE.out,if_neg (fun hn=>h16 hn.1)]);have HB:=hide (show ¬((1:Int)≤q∧(q:Int)≤6)by omega);clear h16;go_enter Tryz.func146,Tryz.ntmps146;go_wp2_with fail;refine HST.out.mono ?_;rintro e w1 ⟨rfl,rfl⟩;go_wp2_with fail;refine(base.within_no q 1 6 _ HB.out).mono ?_;rintro e w1 ⟨rfl,rfl⟩;go_wp2;go_ret;exact⟨by rw[HE2.out];rfl,rfl⟩
 ·have HE:Hid (sizeOf bs=0):=hide (if_neg (fun hn=>hs ((startB_iff bs).2 ⟨hn.1,(start_iff bs hn.1).2 hn.2.1⟩)));rw[(Bool.not_eq_true _).mp hs]at hst;have HST:=hide hst;clear hst hs hv hl;go_enter Tryz.func146,Tryz.ntmps146;go_wp2_with fail;refine HST.out.mono ?_;rintro e w1 ⟨rfl,rfl⟩;go_wp2;go_ret;exact⟨by rw[HE.out];rfl,rfl⟩
end Go.Proofs.YtjkmahmoclobmaaGreat.record
