import Derived.Test.YtjkmahmoclobmaaGreatYItemSmall
import Derived.Test.YtjkmahmoclobmaaGreatYFar
set_option maxRecDepth 100000
set_option maxHeartbeats 1000000
namespace Go.Proofs.YtjkmahmoclobmaaGreat.item
open Go.RowKit mem base row rowBack fill
theorem add_field (a:Addr)(n j:Nat)(h:0<j):a.add (n+j)=⟨(a.add n).block,(a.add n).off+j,none⟩:=by
 rw[add_pos a (n+j) (by omega)]
 by_cases hn:n=0
 ·subst hn
  simp [Addr.add]
 ·rw[add_pos a n (by omega)]
  simp [Nat.add_assoc]
def ItAt (w:World)(q:Addr)(i:It):Prop:=
 w.cell? q=some (.int .i64 i.k)∧w.cell? ⟨q.block,q.off+1,none⟩=some (.int .i64 i.b)∧w.cell? ⟨q.block,q.off+2,none⟩=some (.int .i64 i.c)∧w.cell? ⟨q.block,q.off+3,none⟩=some (.int .i64 i.v)
theorem ItAt.kept {w w':World}{S:List Nat}{q:Addr}{i:It}(h:ItAt w q i)(k:Kept S w w')(hq:q.block∉S):ItAt w' q i:=
 ⟨k.cell h.1 hq,k.cell h.2.1 hq,k.cell h.2.2.1 hq,k.cell h.2.2.2 hq⟩
def Items (w:World)(S:List Nat)(L:Option Addr)(l:List It):Prop:=Vals w S L (valsOf l)
theorem Items.at_ {w:World}{S:List Nat}{L:Option Addr}{l:List It}(h:Items w S L l){k:Nat}{i:It}(hk:l[k]? = some i):∃ ad,L=some ad∧(ad.add (k*4)).block∉S∧ItAt w (ad.add (k*4)) i:=by
 have e:∀ t,t<4→∀ v,i.vals[t]? = some v→∃ ad,L=some ad∧ad.block∉S∧w.cell? (ad.add (k*4+t))=some v:=fun t ht v hv=>
  h (k*4+t) v (by rw[Nat.mul_comm k 4,valsOf_at l k i hk t ht];exact hv)
 obtain⟨ad,rfl,hn,c0⟩:=e 0 (by omega) _ rfl;obtain⟨a1,h1,_,c1⟩:=e 1 (by omega) _ rfl;obtain⟨a2,h2,_,c2⟩:=e 2 (by omega) _ rfl;obtain⟨a3,h3,_,c3⟩:=e 3 (by omega) _ rfl;cases h1;cases h2;cases h3;refine⟨ad,rfl,by rw[block_of_add];exact hn,c0,?_,?_,?_⟩
 ·rw[←add_field ad _ 1 (by omega)];exact c1
 ·rw[←add_field ad _ 2 (by omega)];exact c2
 ·rw[←add_field ad _ 3 (by omega)];exact c3
theorem Items.kept {w w':World}{S S':List Nat}{L:Option Addr}{l:List It}(h:Items w S L l)(k:Kept S' w w')(hs:∀ i∈S',i∈S):Items w' S L l:=Vals.kept h k hs
theorem Items.nil (w:World)(S:List Nat)(L:Option Addr):Items w S L []:=Vals.nil _ _ _
def It.cells (i:It):Array Value:=#[.int .i64 i.k,.int .i64 i.b,.int .i64 i.c,.int .i64 i.v]
theorem It.cell_at {w:World}{g:Nat}{i:It}(h:Blk w g 84 i.cells):w.cell? ⟨g,0,none⟩=some (.int .i64 i.k)∧w.cell? ⟨g,1,none⟩=some (.int .i64 i.b)∧w.cell? ⟨g,2,none⟩=some (.int .i64 i.c)∧w.cell? ⟨g,3,none⟩=some (.int .i64 i.v):=
 ⟨h.cell 0,h.cell 1,h.cell 2,h.cell 3⟩
theorem It.put_at {w:World}{g:Nat}{i:It}(k b c v:Int)(h:Blk w g 84 i.cells):
  Blk ((((w.setCell ⟨g,0,none⟩ (.int .i64 k)).setCell ⟨g,1,none⟩ (.int .i64 b)).setCell ⟨g,2,none⟩ (.int .i64 c)).setCell ⟨g,3,none⟩ (.int .i64 v)) g 84 (It.cells ⟨k,b,c,v⟩):=
 (((h.set_ 0 (.int .i64 k)).set_ 1 (.int .i64 b)).set_ 2 (.int .i64 c)).set_ 3 (.int .i64 v)
theorem It.put_kept {S:List Nat}{a w:World}{g:Nat}(k b c v:Int)(h:Kept S a w)(hg:g∈S∨a.heap.size≤g):
  Kept S a ((((w.setCell ⟨g,0,none⟩ (.int .i64 k)).setCell ⟨g,1,none⟩ (.int .i64 b)).setCell ⟨g,2,none⟩ (.int .i64 c)).setCell ⟨g,3,none⟩ (.int .i64 v)):=
 (((h.set_ hg 0 _).set_ hg 1 _).set_ hg 2 _).set_ hg 3 _
end Go.Proofs.YtjkmahmoclobmaaGreat.item
namespace Go.Proofs.YtjkmahmoclobmaaGreat.item
open Go.RowKit mem base row rowBack fill
theorem encode_many_any (L:Option Addr)(n c:Nat)(w:World)(h:6<n):
  Calls Tryz.prog 228 #[.slice L n c] w fun e w'=>e= .returned (.tuple #[.slice none 0 0,.int .i64 1])∧Kept [] w w':=by
 go_enter Tryz.func228,Tryz.ntmps228;go_wp2;go_ret2;exact⟨rfl,Kept.refl _ _⟩

theorem encode_any (L:Option Addr)(n c:Nat)(l:List It)(w:World)(hv:Items w [] L l)(hl:l.length=n)(hn:n≤6):
  Calls Tryz.prog 228 #[.slice L n c] w fun e w'=>∃ A n' c',e= .returned (.tuple #[.slice A n' c',.int .i64 (encode l).2])∧n'=(encode l).1.length∧NewBytes w w' A c' (encode l).1∧Kept [] w w':=by
 have HV:=hide hv;have HL:=hide hl;clear hv hl;go_enter Tryz.func228,Tryz.ntmps228;go_wp2_with fail;refine(new_at (7*(n:Int)) _ (by omega) (by omega)).mono ?_;rintro e w1 ⟨p,b,cap,A,rfl,hp,hb,hb1,hr,hk⟩;rw[show(⟨List.replicate (7*(n:Int)).toNat 0,0⟩:Row)=rowF (7*n) []by rw[show(7*(n:Int)).toNat=7*n by omega];exact rowF_nil _]at hr;have HR:=hide hr;have hp1:=hr.lt;have HK:=hide hk;have HP:=hide hp;have HB:=hide hb;clear hr hk hp hb;go_wp2
 go_loopw [16,6] (fun i u wr=>∃ k:Nat,k≤n∧i= .int .i64 k∧Hid (RowAt wr p b cap A (rowF (7*n) (laid (l.take k))))∧Hid (allMay (l.take k))∧Hid (Kept [] w wr)∧w1.heap.size≤wr.heap.size) (fun i u wr=>n-(intOf i).toNat)
 case atStart=>exact⟨0,by omega,rfl,HR,hide (by simp [allMay]),HK,Nat.le_refl _⟩
 case round=>
  obtain⟨k,hk,rfl,HR1,HM1,HK1,hsz⟩:=hrel
  by_cases hlt:k<n
  ·obtain⟨i,hi⟩:∃ i,l[k]? = some i:=⟨_,List.getElem?_eq_getElem (by rw[HL.out];exact hlt)⟩;obtain⟨ad,rfl,_,c0,c1,c2,c3⟩:=(HV.out.kept HK1.out (by simp)).at_ hi;have HI:=hide hi;clear hi;have hb0:Blk (wr.alloc (.cells i.cells 84)) wr.heap.size 84 i.cells:=Blk.new wr _ _;have hk0:=(Kept.refl [] wr).alloc (.cells i.cells 84)
   have hts:l.take (k+1)=l.take k++[i]:=by rw[List.take_add_one,HI.out];rfl
   have HT:=hide hts;clear hts;go_wp2_with fail;refine(may_any i _).mono ?_;rintro e w2 ⟨rfl,hk⟩;have hs2:=hk.size;have HK2:=hide (HK1.out.trans (hk0.trans hk (by simp)) (by simp));have HB2:=hide (hk.blk hb0 (by simp));have HR2:=hide (HR1.out.kept (hk0.trans hk (by simp)) (by simp) (by simp));have hb2:=HB2.out.lt;have hp2:=HR1.out.lt;have HBP:=HB.out;have HPP:=HP.out
   have hbr:b<wr.heap.size:=by omega
   have hs2':w1.heap.size≤w2.heap.size:=by have:=hk0.size;omega
   obtain⟨q,hq⟩:∃ q,wr.heap.size=q:=⟨_,rfl⟩;rw[hq]at HB2 hb2 hp2 hbr ⊢;clear hk hb0 hk0 c0 c1 c2 c3 hs2
   by_cases hm:i.may=true
   ·rw[hm];have HF:=hide (i.fits ((It.may_iff i).1 hm));have hM:=hide (allMay_snoc _ i HM1.out hm);obtain⟨f0,f1,f2,f3⟩:=It.cell_at HB2.out;go_wp2_with fail;refine(put_len p b cap A _ 1 (some ⟨w2.heap.size,0,none⟩) [i.k,i.b,i.c] 3 3 _ rfl (HR2.out.kept (S:=[]) ((Kept.refl _ w2).alloc _) (by simp) (by simp)) (Vals.lit w2 [p,b] _ _ _ ([i.k,i.b,i.c].map I) rfl (by simp;omega)) (by omega)).mono ?_;rintro e w3 ⟨rfl,hr,hk⟩;rw[show((1:Int))=((1:Nat):Int)by rfl,rowF_put (7*n) _ 1 _ rfl HF.out.1 (by simp [laid_len];omega)]at hr;have HR3:=hide hr;have HB3:=hide (Kept.lit_blk _ hk HB2.out (by simp;omega));have HK3:=hide (HK2.out.lit _ hk (by simp;omega));have hs3:=hk.size;simp at hs3;clear hr hk f0 f1 f2 f3;have f3:=(It.cell_at HB3.out).2.2.2;go_wp2_with fail;refine(put_len p b cap A _ 4 (some ⟨w3.heap.size,0,none⟩) [i.v] 1 1 _ rfl (HR3.out.kept (S:=[]) ((Kept.refl _ w3).alloc _) (by simp) (by simp)) (Vals.lit w3 [p,b] _ _ _ ([i.v].map I) rfl (by simp;omega)) (by omega)).mono ?_;rintro e w4 ⟨rfl,hr,hk⟩;rw[show((4:Int))=((4:Nat):Int)by rfl,rowF_put (7*n) _ 4 _ rfl HF.out.2 (by simp [laid_len,bytesOf_length];omega),List.append_assoc]at hr;have HR4:Hid (RowAt w4 p b cap A (rowF (7*n) (laid (l.take (k+1))))):=hide (by rw[HT.out,laid_snoc];exact hr);have HK4:=hide (HK3.out.lit _ hk (by simp;omega));have hs4:=hk.size;simp at hs4;clear hr hk;go_wp2;go_roundw
    case rel=>exact⟨k+1,by omega,by go_num,HR4,hide (by rw[HT.out];exact hM.out),HK4,by omega⟩
    case measure=>simp [intOf];omega
   ·have hm':=(Bool.not_eq_true _).mp hm;rw[hm'];have HE:=hide (encode_bad l i (List.mem_of_getElem? HI.out) hm');clear hm hm';go_wp2;go_ret2;rw[HE.out];exact⟨none,0,0,rfl,rfl,.inl ⟨rfl,rfl,rfl⟩,HK2.out⟩
  ·obtain rfl:k=n:=by omega
   have hfull:l.take k=l:=List.take_of_length_le (by rw[HL.out];exact Nat.le_refl _);rw[hfull]at HR1 HM1;have HE:=hide (encode_yes l (by rw[HL.out];exact hn) HM1.out);clear hfull;go_wp2_with fail;refine(bytes_at p b cap A _ _ HR1.out).mono ?_;rintro e w6 ⟨A6,c6,rfl,hn6,hk6⟩;rw[rowF_full _ _ (by rw[laid_len,HL.out])]at hn6 ⊢;have HN6:=hide (hn6.mono HK1.out.size);have HK6:=hide (HK1.out.trans hk6 (by simp));clear hn6 hk6;go_wp2;go_ret2;rw[HE.out];exact⟨A6,_,c6,rfl,rfl,HN6.out,HK6.out⟩
end Go.Proofs.YtjkmahmoclobmaaGreat.item
namespace Go.Proofs.YtjkmahmoclobmaaGreat.item
open Go.RowKit mem base row rowBack fill
theorem get_any (p b cap:Nat)(A:Option Addr)(bs:List UInt8)(pos pos' x:Nat)(y:Int)(w:World)(h:RowAt w p b cap A ⟨bs,pos⟩)(hx:isW (x:Int)=true)(hp:pos+x≤bs.length)(hq:pos'=pos+x)(hy:numOf ((bs.drop pos).take x)=y):
  Calls Tryz.prog 245 #[.pointer (some ⟨p,0,none⟩),.int .i64 x] w fun e w'=>e= .returned (.int .i64 y)∧RowAt w' p b cap A ⟨bs,pos'⟩∧Kept [p] w w':=by
 have H:=hide h;have HG:=hide (get_at_ok bs pos x hx hp);have HY:=hide hy;subst hq;clear h hy hx hp;go_enter Tryz.func245,Tryz.ntmps245;go_wp2_with fail;refine(row.get_at p b cap A ⟨bs,pos⟩ x _ H.out).mono ?_;rintro e w1 ⟨rfl,hr,hk⟩;rw[HG.out]at hr;rw[HG.out,HY.out];have HR:=hide hr;have HK:=hide hk;clear hr hk;go_wp2;go_ret;exact⟨rfl,HR.out,HK.out⟩

theorem read_any (p b cap:Nat)(A:Option Addr)(bs:List UInt8)(pos:Nat)(i:It)(w:World)(h:RowAt w p b cap A ⟨bs,pos⟩)(hp:pos+7≤bs.length)(hi:itAt bs pos=i):
  Calls Tryz.prog 244 #[.pointer (some ⟨p,0,none⟩)] w fun e w'=>e= .returned i.val∧RowAt w' p b cap A ⟨bs,pos+7⟩∧Kept [p] w w':=by
 have hk1:numOf ((bs.drop pos).take 1)=i.k:=by rw[←hi];rfl
 have hb1:numOf ((bs.drop (pos+1)).take 1)=i.b:=by rw[←hi];rfl
 have hc1:numOf ((bs.drop (pos+2)).take 1)=i.c:=by rw[←hi];rfl
 have hv1:numOf ((bs.drop (pos+3)).take 4)=i.v:=by rw[←hi];rfl
 have HK1:=hide hk1;have HB1:=hide hb1;have HC1:=hide hc1;have HV1:=hide hv1;have HP:=hide hp;have hlt:=h.lt;have hbl:b<w.heap.size:=(h.2.1 (by intro e;have e2:bs=[]:=e;rw[e2]at hp;simp at hp)).lt;obtain⟨g,hg⟩:∃ g,w.heap.size=g:=⟨_,rfl⟩;have HB0:=hide (Blk.new w 84 It.zero.cells);have hk0:=(Kept.refl [p] w).alloc (.cells It.zero.cells 84);have HK0:=hide hk0;have HR0:=hide (h.kept (S:=[]) ((Kept.refl _ w).alloc (.cells It.zero.cells 84)) (by simp) (by simp));have HG:=hide (show p≠g by omega);have HBG:=hide (show b≠g by omega);clear h hi hk1 hb1 hc1 hv1 hp hk0;go_enter Tryz.func244,Tryz.ntmps244;rw[hg]at HB0;go_wp2_with fail;refine(get_any p b cap A bs pos (pos+1) 1 i.k _ HR0.out rfl (by have:=HP.out;omega) rfl HK1.out).mono ?_;rintro e w1 ⟨rfl,hr,hk⟩;have HR2:=hide hr;have HB2:=hide (hk.blk HB0.out (by simp [HG.out.symm]));have HK2:=hide (HK0.out.trans hk (by simp));clear hr hk HR0 HB0 HK0;go_wp2_with fail;refine(get_any p b cap A bs (pos+1) (pos+2) 1 i.b _ HR2.out rfl (by have:=HP.out;omega) rfl HB1.out).mono ?_;rintro e w2 ⟨rfl,hr,hk⟩;have HR3:=hide hr;have HB3:=hide (hk.blk HB2.out (by simp [HG.out.symm]));have HK3:=hide (HK2.out.trans hk (by simp));clear hr hk HR2 HB2 HK2;go_wp2_with fail;refine(get_any p b cap A bs (pos+2) (pos+3) 1 i.c _ HR3.out rfl (by have:=HP.out;omega) rfl HC1.out).mono ?_;rintro e w3 ⟨rfl,hr,hk⟩;have HR4:=hide hr;have HB4:=hide (hk.blk HB3.out (by simp [HG.out.symm]));have HK4:=hide (HK3.out.trans hk (by simp));clear hr hk HR3 HB3 HK3;go_wp2_with fail
 refine(get_any p b cap A bs (pos+3) (pos+7) 4 i.v _ HR4.out rfl (by have:=HP.out;omega) rfl HV1.out).mono ?_;rintro e w4 ⟨rfl,hr,hk⟩;have HR5:=hide hr;have HB5:=hide (hk.blk HB4.out (by simp [HG.out.symm]));have HK5:=hide (HK4.out.trans hk (by simp));clear hr hk HR4 HB4 HK4;have f0:=HB5.out.frozen 0;have f1:=HB5.out.frozen 1;have f2:=HB5.out.frozen 2;have f3:=HB5.out.frozen 3;obtain⟨d0,d1,d2,d3⟩:=It.cell_at HB5.out;have hbw:=hide (It.put_at i.k i.b i.c i.v HB5.out);have hkw:=hide (It.put_kept i.k i.b i.c i.v HK5.out (g:=g) (.inr (Nat.le_of_eq hg)));have hrw:=hide (HR5.out.kept (It.put_kept i.k i.b i.c i.v (Kept.refl [g] w4) (g:=g) (.inl (by simp))) (by simp [HG.out]) (by simp [HBG.out]));go_wp2;generalize ((((w4.setCell ⟨g,0,none⟩ (.int .i64 i.k)).setCell ⟨g,1,none⟩ (.int .i64 i.b)).setCell ⟨g,2,none⟩ (.int .i64 i.c)).setCell ⟨g,3,none⟩ (.int .i64 i.v))=W at hbw hkw hrw ⊢;obtain⟨t0,t1,t2,t3⟩:=It.cell_at hbw.out;refine bodyPost_ret (v:=i.val) ?_ rfl ⟨rfl,hrw.out,hkw.out⟩
 simp [results,Tryz.results244,go_sem,t0,t1,t2,t3,It.val]
end Go.Proofs.YtjkmahmoclobmaaGreat.item
namespace Go.Proofs.YtjkmahmoclobmaaGreat.item
open Go.RowKit mem base row rowBack fill
def IBlk (w:World)(g:Nat)(l:List It):Prop:=Blk w g 84 (valsOf l).toArray
theorem made_items (m:Nat):madeCells #[.int .i64 0,.int .i64 0,.int .i64 0,.int .i64 0] (m*4)=(valsOf (List.replicate m It.zero)).toArray:=by
 have h0:∀ n:Nat,n<4→([.int .i64 0,.int .i64 0,.int .i64 0,.int .i64 0]:List Value)[n]?.getD default= .int .i64 0:=by
  intro n hn
  match n,hn with
  | 0,_=>rfl
  | 1,_=>rfl
  | 2,_=>rfl
  | 3,_=>rfl
 have hv:valsOf (List.replicate m It.zero)=List.replicate (m*4) (.int .i64 0):=by
  induction m with
  | zero=>rfl
  | succ m ih=>rw[List.replicate_succ,show(m+1)*4=m*4+1+1+1+1 by omega,List.replicate_succ,List.replicate_succ,List.replicate_succ,List.replicate_succ,←ih];rfl
 rw[hv]
 apply Array.ext
 ·simp [madeCells]
 ·intro i h1 h2
  simp [madeCells,h0 (i%4) (Nat.mod_lt _ (by omega))]
theorem IBlk.new (w:World)(m:Nat):IBlk (w.alloc (.cells (madeCells #[.int .i64 0,.int .i64 0,.int .i64 0,.int .i64 0] (m*4)) 84)) w.heap.size (List.replicate m It.zero):=by
 rw[made_items];exact Blk.new w _ _
theorem IBlk.at_ {w:World}{g:Nat}{l:List It}(h:IBlk w g l){k:Nat}{i:It}(hk:l[k]? = some i):ItAt w ⟨g,k*4,none⟩ i:=by
 have e:∀ t,t<4→w.cell? ⟨g,k*4+t,none⟩=i.vals[t]? := fun t ht=>by
  rw[Blk.cell h,List.getElem?_toArray,Nat.mul_comm k 4,valsOf_at l k i hk t ht]
 exact⟨e 0 (by omega),e 1 (by omega),e 2 (by omega),e 3 (by omega)⟩
theorem valsOf_set (l:List It)(k:Nat)(i:It)(hk:k<l.length):
  ((((valsOf l).set (k*4) (.int .i64 i.k)).set (k*4+1) (.int .i64 i.b)).set (k*4+2) (.int .i64 i.c)).set (k*4+3) (.int .i64 i.v)=valsOf (l.set k i):=by
 have e:l=l.take k++([l[k]]++l.drop (k+1)):=by simp
 have e2:l.set k i=l.take k++([i]++l.drop (k+1)):=by rw[List.set_eq_take_append_cons_drop,if_pos hk];rfl
 have hl:(valsOf (l.take k)).length=k*4:=by rw[valsOf_len,List.length_take];omega
 rw[e2]
 conv=>lhs;rw[e]
 generalize l[k]=z;rw[valsOf_append,valsOf_append,valsOf_append,valsOf_append]
 have hs:∀ (x:List Value) (t:Nat) (v:Value),(valsOf (l.take k)++x).set (k*4+t) v=valsOf (l.take k)++x.set t v:=fun x t v=>by
  rw[List.set_append,hl,if_neg (by omega),Nat.add_sub_cancel_left]
 have hs0:=fun x v=>hs x 0 v;simp only[Nat.add_zero]at hs0;rw[hs0,hs,hs,hs]
 rfl
theorem IBlk.put_at {w:World}{g:Nat}{l:List It}{k:Nat}(i:It)(h:IBlk w g l)(hk:k<l.length):
  IBlk ((((w.setCell ⟨g,k*4,none⟩ (.int .i64 i.k)).setCell ⟨g,k*4+1,none⟩ (.int .i64 i.b)).setCell ⟨g,k*4+2,none⟩ (.int .i64 i.c)).setCell ⟨g,k*4+3,none⟩ (.int .i64 i.v)) g (l.set k i):=by
 have h1:=(((Blk.set_ h (k*4) (.int .i64 i.k)).set_ (k*4+1) (.int .i64 i.b)).set_ (k*4+2) (.int .i64 i.c)).set_ (k*4+3) (.int .i64 i.v);unfold IBlk;rw[←valsOf_set l k i hk]
 simpa using h1
theorem put_kept4 {S:List Nat}{a w:World}{g:Nat}(o:Nat)(i:It)(h:Kept S a w)(hg:g∈S∨a.heap.size≤g):
  Kept S a ((((w.setCell ⟨g,o,none⟩ (.int .i64 i.k)).setCell ⟨g,o+1,none⟩ (.int .i64 i.b)).setCell ⟨g,o+2,none⟩ (.int .i64 i.c)).setCell ⟨g,o+3,none⟩ (.int .i64 i.v)):=
 (((h.set_ hg o _).set_ hg (o+1) _).set_ hg (o+2) _).set_ hg (o+3) _
theorem IBlk.items {w:World}{S:List Nat}{g:Nat}{l:List It}(h:IBlk w g l)(hg:g∉S):Items w S (some ⟨g,0,none⟩) l:=
 Vals.blk 0 h hg (fun i v hv=>by rw[Nat.zero_add,List.getElem?_toArray];exact hv)
theorem set_zero (l:List It)(k m:Nat)(i:It)(hi:l[k]? = some i)(hk:k<m):(l.take k++List.replicate (m-k) It.zero).set k i=l.take (k+1)++List.replicate (m-(k+1)) It.zero:=by
 have hl:(l.take k).length=k:=by rw[List.length_take];have:=(List.getElem?_eq_some_iff.1 hi).1;omega
 rw[List.set_append,hl,if_neg (by omega),Nat.sub_self,show m-k=(m-(k+1))+1 by omega,List.replicate_succ,List.set_cons_zero,List.take_add_one,hi]
 simp

theorem item_info:(Tryz.prog.info? 84).map (fun i=>(i.zero,i.size,i.bytes))=some (some It.zero.val,4,32):=by kernel_rfl
theorem run_make_items (m:Nat)(hm:m≤6)(w:World):
  (Instr.makeSlice 105 (.int .i64 (m:Int)) (.int .i64 (m:Int))).run Tryz.prog w= .ok (.slice (some ⟨w.heap.size,0,none⟩) m m) (w.alloc (.cells (madeCells #[.int .i64 0,.int .i64 0,.int .i64 0,.int .i64 0] (m*4)) 84)):=by
 obtain⟨i,hi,hzz⟩:=Option.map_eq_some_iff.1 item_info;simp only[Prod.mk.injEq]at hzz;obtain⟨hz,hs,hb⟩:=hzz;have hr:=run_make (P:=Tryz.prog) w 105 84 i _ Tryz.underlying105 hi hz .i64 .i64 m m (by omega) (Int.le_refl _) (by rw[hb];omega) (by omega);rw[hs,Int.toNat_natCast]at hr;exact hr

theorem decode_len_any (A:Option Addr)(n c:Nat)(w:World)(h:n%7≠0∨n%7=0∧42<n)(hn:n≤65536):
  Calls Tryz.prog 242 #[.slice A n c] w fun e w'=>e= .returned (.tuple #[.slice none 0 0,.int .i64 2])∧Kept [] w w':=by
 rcases h with h|⟨h,h2⟩
 ·have g1:((n:Int)%7 != 0)=true:=by rw[bne_iff_ne];omega
  clear h;go_enter Tryz.func242,Tryz.ntmps242;go_wp2;go_ret2;exact⟨rfl,Kept.refl _ _⟩
 ·have g1:((n:Int)%7 != 0)=false:=by rw[bne_eq_false_iff_eq];omega
  clear h;go_enter Tryz.func242,Tryz.ntmps242;go_wp2;go_ret2;exact⟨rfl,Kept.refl _ _⟩

theorem decode_in (A:Option Addr)(m n c:Nat)(bs:List UInt8)(w:World)(hv:Vals w [] A (bs.map B))(hl:bs.length=n)(hA:A=none→c=0)(hn:n=7*m)(hm:m≤6):
  Calls Tryz.prog 242 #[.slice A n c] w fun e w'=>∃ L n' c',e= .returned (.tuple #[.slice L n' c',.int .i64 (decode bs).2])∧n'=(decode bs).1.length∧n'≤c'∧(L=none→c'=0)∧(∀ S:List Nat,(∀ i∈S,i<w.heap.size)→Items w' S L (decode bs).1)∧Kept [] w w':=by
 have HV:=hide hv;have HL:=hide hl;have HA:=hide hA
 have g1:((n:Int)%7 != 0)=false:=by rw[bne_eq_false_iff_eq];omega
 have g2:(n:Int)/7=m:=by omega
 have g3:¬(42:Int)<n:=by omega
 obtain⟨its,hits⟩:∃ its,itemsOf bs=its:=⟨_,rfl⟩
 have hil:its.length=m:=by rw[←hits,itemsOf_len,hl,hn];omega
 have HI:=hide hits;have HIL:=hide hil;have HMN:=hide hn
 have hn42:n≤42:=by omega
 clear hv hl hA hits hil hn;go_enter Tryz.func242,Tryz.ntmps242;go_wp2_with fail;rw[←HL.out];refine(from_at A c bs _ HV.out HA.out (by rw[HL.out];omega)).mono ?_;rintro e w1 ⟨p,b,cap,A',rfl,hp,hb,hb1,hr,hk⟩;rw[HL.out];have hbl:0<m→b<w1.heap.size:=fun h0=>(hr.2.1 (by intro e;have e2:bs=[]:=e;have:=HL.out;rw[e2]at this;simp at this;have:=HMN.out;omega)).lt;have hp1:=hr.lt;have HBL:=hide hbl;have HR1:=hide hr;have HK1:=hide hk;have HP:=hide hp;have HB:=hide hb;clear hr hk hp hb hbl;have hmk:=run_make_items m hm w1;have hib:=IBlk.new w1 m;have hkb:=(Kept.refl [] w1).alloc (.cells (madeCells #[.int .i64 0,.int .i64 0,.int .i64 0,.int .i64 0] (m*4)) 84);obtain⟨w2,hw2⟩:∃ w2,w1.alloc (.cells (madeCells #[.int .i64 0,.int .i64 0,.int .i64 0,.int .i64 0] (m*4)) 84)=w2:=⟨_,rfl⟩;obtain⟨g,hg⟩:∃ g,w1.heap.size=g:=⟨_,rfl⟩;rw[hw2]at hmk hib hkb;rw[hg]at hmk hib;have HR2:=hide (HR1.out.kept hkb (by simp) (by simp));have HK2:=hide (HK1.out.trans hkb (by simp));have HIB2:=hide hib
 have hpg:p<g:=by omega
 have HBG:=hide (show 0<m→b≠g from fun h0=>by have:=HBL.out h0;omega);have HWG:=hide (show w.heap.size≤g by have:=HK1.out.size;omega);clear hib hkb hw2;go_wp2
 go_loopw [24,6] (fun i u wr=>∃ k:Nat,k≤m∧i= .int .i64 k∧Hid (RowAt wr p b cap A' ⟨bs,7*k⟩)∧Hid (IBlk wr g (its.take k++List.replicate (m-k) It.zero))∧Hid (allMay (its.take k))∧Hid (Kept [] w wr)) (fun i u wr=>m-(intOf i).toNat)
 case atStart=>exact⟨0,by omega,rfl,HR2,HIB2,hide (by simp [allMay]),HK2⟩
 case round=>
  obtain⟨k,hk,rfl,HR3,HB3,HM3,HK3⟩:=hrel
  by_cases hlt:k<m
  ·obtain⟨i,hi⟩:∃ i,its[k]? = some i:=⟨_,List.getElem?_eq_getElem (by rw[HIL.out];exact hlt)⟩
   have hia:itAt bs (7*k)=i:=by
    have:=itemsOf_at bs k (by rw[HL.out,HMN.out];omega)
    rw[HI.out,hi]at this
    exact(Option.some.inj this).symm
   have HIK:=hide hi;have HIA:=hide hia;have HLT:=hide hlt
   have hpos:7*k+7≤bs.length:=by rw[HL.out,HMN.out];omega
   have HPOS:=hide hpos
   have hz:(its.take k++List.replicate (m-k) It.zero)[k]? = some It.zero:=by
    have hl:(its.take k).length=k:=by rw[List.length_take,HIL.out];omega
    rw[List.getElem?_append_right (by omega),hl,Nat.sub_self,List.getElem?_replicate,if_pos (by omega)]
   have HZ:=hide hz
   have hll:(its.take k++List.replicate (m-k) It.zero).length=m:=by rw[List.length_append,List.length_take,List.length_replicate,HIL.out];omega
   have HLL:=hide hll;clear hi hia hpos hz hll;go_wp2_with fail;refine(read_any p b cap A' bs (7*k) i _ HR3.out HPOS.out HIA.out).mono ?_;rintro e w4 ⟨rfl,hr,hk4⟩;have HR4:=hide hr;have HB4:Hid (IBlk w4 g (its.take k++List.replicate (m-k) It.zero)):=hide (hk4.blk HB3.out (by simp;omega));have HK4:=hide (HK3.out.trans hk4 (by have:=HP.out;simp;omega));clear hr hk4;obtain⟨d0,d1,d2,d3⟩:=HB4.out.at_ HZ.out;have f0:=Blk.frozen HB4.out (k*4);have f1:=Blk.frozen HB4.out (k*4+1);have f2:=Blk.frozen HB4.out (k*4+2);have f3:=Blk.frozen HB4.out (k*4+3);have HB5:=hide (HB4.out.put_at i (by rw[HLL.out];exact HLT.out));have HK5:=hide (put_kept4 (k*4) i HK4.out (g:=g) (.inr HWG.out));have hk45:=put_kept4 (k*4) i (Kept.refl [g] w4) (g:=g) (.inl (by simp));have HR5:=hide (HR4.out.kept hk45 (by simp;omega) (by have:=HBG.out (by omega);simp [this]));rw[set_zero its k m i HIK.out HLT.out]at HB5;clear hk45;unfold It.val;go_wp2_with fail;generalize ((((w4.setCell ⟨g,k*4,none⟩ (.int .i64 i.k)).setCell ⟨g,k*4+1,none⟩ (.int .i64 i.b)).setCell ⟨g,k*4+2,none⟩ (.int .i64 i.c)).setCell ⟨g,k*4+3,none⟩ (.int .i64 i.v))=w5 at HB5 HK5 HR5 ⊢;clear d0 d1 d2 d3 f0 f1 f2 f3 HB4 HK4 HR4 HB3 HK3 HR3;refine(may_any i _).mono ?_;rintro e w6 ⟨rfl,hk⟩;have HR6:=hide (HR5.out.kept hk (by simp) (by simp));have HB6:Hid (IBlk w6 g (its.take (k+1)++List.replicate (m-(k+1)) It.zero)):=hide (hk.blk HB5.out (by simp));have HK6:=hide (HK5.out.trans hk (by simp));clear hk HB5 HR5 HK5
   by_cases hm:i.may=true
   ·rw[hm]
    have hM:allMay (its.take (k+1)):=by
     have:=allMay_snoc _ i HM3.out hm
     rw[List.take_add_one,HIK.out];exact this
    have HM:=hide hM;clear hm hM;go_wp2;go_roundw
    case rel=>exact⟨k+1,by omega,by go_num,HR6,HB6,HM,HK6⟩
    case measure=>simp [intOf];omega
   ·have hm':=(Bool.not_eq_true _).mp hm;rw[hm']
    have HE:Hid (decode bs=([],2)):=hide (if_neg (fun hn=>by
     have:=hn.2 i (by rw[HI.out];exact List.mem_of_getElem? HIK.out)
     exact hm this))
    clear hm hm';go_wp2;go_ret2;rw[HE.out];exact⟨none,0,0,rfl,rfl,Nat.le_refl _,fun _=>rfl,fun S _=>Items.nil _ _ _,HK6.out⟩
  ·obtain rfl:k=m:=by omega
   have hfull:its.take k=its:=List.take_of_length_le (by rw[HIL.out];exact Nat.le_refl _);rw[hfull]at HM3 HB3;rw[Nat.sub_self,List.replicate_zero,List.append_nil]at HB3
   have HE:Hid (decode bs=(its,0)):=hide (by
    unfold decode
    rw[HI.out,if_pos ⟨⟨by rw[HL.out,HMN.out];omega,by rw[HL.out];exact hn42⟩,HM3.out⟩])
   clear hfull;go_wp2;go_ret2;rw[HE.out];exact⟨some ⟨g,0,none⟩,k,k,rfl,HIL.out.symm,Nat.le_refl _,by simp,fun S hS=>HB3.out.items (fun hm=>by have:=hS _ hm;have:=HWG.out;omega),HK3.out⟩

theorem decode_far (A:Option Addr)(n c:Nat)(bs:List UInt8)(w:World)(hv:Vals w [] A (bs.map B))(hl:bs.length=n)(hA:A=none→c=0)(hn:n≤65536):
  Calls Tryz.prog 242 #[.slice A n c] w fun e w'=>∃ L n' c',e= .returned (.tuple #[.slice L n' c',.int .i64 (decode bs).2])∧n'=(decode bs).1.length∧n'≤c'∧(L=none→c'=0)∧(∀ S:List Nat,(∀ i∈S,i<w.heap.size)→Items w' S L (decode bs).1)∧Kept [] w w':=by
 by_cases h7:n%7=0
 ·by_cases h42:n≤42
  ·exact decode_in A (n/7) n c bs w hv hl hA (by omega) (by omega)
  ·have e:decode bs=([],2):=if_neg (fun h=>by have:=h.1.2;omega);rw[e]
   exact(decode_len_any A n c w (.inr ⟨h7,by omega⟩) hn).mono fun _ _ ⟨h1,h3⟩=>⟨none,0,0,h1,rfl,Nat.le_refl _,fun _=>rfl,fun S _=>Items.nil _ _ _,h3⟩
 ·have e:decode bs=([],2):=decode_odd bs (by rw[hl];exact h7);rw[e]
  exact(decode_len_any A n c w (.inl h7) hn).mono fun _ _ ⟨h1,h3⟩=>⟨none,0,0,h1,rfl,Nat.le_refl _,fun _=>rfl,fun S _=>Items.nil _ _ _,h3⟩
end Go.Proofs.YtjkmahmoclobmaaGreat.item
