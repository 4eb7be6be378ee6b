import Derived.Test.YtjkmahmoclobmaaGreatYRecordRef
import Derived.Test.YtjkmahmoclobmaaGreatYRecordDec
import Derived.Test.YtjkmahmoclobmaaGreatYOrders
set_option maxRecDepth 100000
set_option maxHeartbeats 1000000
namespace Go.Proofs.YtjkmahmoclobmaaGreat.record
open Go.RowKit mem base row rowBack fill crc crcMath super item ref
theorem size_le (bs:List UInt8):sizeOf bs≤7:=by
 unfold sizeOf
 split
 ·rename_i h
  have:=h.2.2.1.2
  have:=h.2.2.2
  omega
 ·omega
theorem num_here (bs:List UInt8)(p x:Nat)(y:Int)(hx:isW (x:Int)=true)(h:p+x≤bs.length)(hy:numAt bs p x=y):(Row.get ⟨bs,p⟩ x).2.2=⟨bs,p+x⟩∧(Row.get ⟨bs,p⟩ x).1=y:=by
 rw[get_at_ok bs p x hx h];exact⟨rfl,hy⟩

theorem rof_short (A:Option Addr)(n c:Nat)(bs:List UInt8)(w:World)(hv:Vals w [] A (bs.map B))(hl:bs.length=n)(hnc:n≤c)(h:n<64∨64≤n∧64*sizeOf (bs.take 64)≠n)(hn:n≤65536):
  Calls Tryz.prog 147 #[.slice A n c] w fun e w'=>
   e= .returned (.tuple #[.agg #[.int .i64 0,.int .i64 0,.int .i64 0,.slice none 0 0,.slice none 0 0],.int .i64 0,.int .i64 2])∧Kept [] w w':=by
 have HV:=hide hv;have HL:=hide hl;obtain⟨w1,hw1⟩:∃ w1,w.alloc (.cells #[.int .i64 0,.int .i64 0,.int .i64 0,.slice none 0 0,.slice none 0 0] 111)=w1:=⟨_,rfl⟩;obtain⟨w2,hw2⟩:∃ w2,w1.alloc (.cells #[.int .i64 0,.int .i64 0,.int .i64 0,.slice none 0 0,.slice none 0 0] 111)=w2:=⟨_,rfl⟩;obtain⟨g,hg⟩:∃ g,w.heap.size=g:=⟨_,rfl⟩;obtain⟨s,hs⟩:∃ s,w1.heap.size=s:=⟨_,rfl⟩
 have hb1:Blk w1 g 111 #[.int .i64 0,.int .i64 0,.int .i64 0,.slice none 0 0,.slice none 0 0]:=by rw[←hw1,←hg];exact Blk.new w _ _
 have hb2:Blk w2 g 111 #[.int .i64 0,.int .i64 0,.int .i64 0,.slice none 0 0,.slice none 0 0]:=by rw[←hw2];exact hb1.alloc _
 have hs2:Blk w2 s 111 #[.int .i64 0,.int .i64 0,.int .i64 0,.slice none 0 0,.slice none 0 0]:=by rw[←hw2,←hs];exact Blk.new w1 _ _
 have hk2:Kept [] w w2:=by rw[←hw2,←hw1];exact((Kept.refl [] w).alloc _).alloc _
 have HG:=hide (Nat.le_of_eq hg);obtain⟨c0,c1,c2,c3,c4⟩:=cell5 hs2;obtain⟨d0,d1,d2,d3,d4⟩:=cell5 hb2;have f0:=hb2.frozen 0;have f1:=hb2.frozen 1;have f2:=hb2.frozen 2;have f3:=hb2.frozen 3;have f4:=hb2.frozen 4;have HBW:=hide (put5 (.int .i64 0) (.int .i64 0) (.int .i64 0) (.slice none 0 0) (.slice none 0 0) hb2);have HKW:=hide (put5_kept (g:=g) (S:=[]) (.int .i64 0) (.int .i64 0) (.int .i64 0) (.slice none 0 0) (.slice none 0 0) hk2 (.inr HG.out));have HK2:=hide hk2;clear hb1 hb2 hs2 hk2 hv hl
 rcases h with h|⟨h1,h2⟩
 ·have hlt:(n:Int)<64:=by omega
  clear h;go_enter Tryz.func147,Tryz.ntmps147;go_wp2;generalize (((((w2.setCell ⟨g,0,none⟩ (.int .i64 0)).setCell ⟨g,1,none⟩ (.int .i64 0)).setCell ⟨g,2,none⟩ (.int .i64 0)).setCell ⟨g,3,none⟩ (.slice none 0 0)).setCell ⟨g,4,none⟩ (.slice none 0 0))=W at HBW HKW ⊢;obtain⟨t0,t1,t2,t3,t4⟩:=cell5 HBW.out;refine bodyPost_ret (v:= .tuple #[.agg #[.int .i64 0,.int .i64 0,.int .i64 0,.slice none 0 0,.slice none 0 0],.int .i64 0,.int .i64 2]) ?_ rfl ⟨rfl,HKW.out⟩
  simp [results,Tryz.results147,go_sem,t0,t1,t2,t3,t4]
 ·have hlt:¬((n:Int)<64):=by omega
  have hq7:=size_le (bs.take 64);have HV64:Hid (Vals w2 [] A ((bs.take 64).map B)):=hide (by rw[List.map_take];exact(HV.out.kept HK2.out (by simp)).first 64);have HL64:Hid ((bs.take 64).length=64):=hide (by rw[List.length_take,HL.out];omega);obtain⟨q,hq⟩:∃ q,sizeOf (bs.take 64)=q:=⟨_,rfl⟩;rw[hq]at h2 hq7;have HQ:=hide hq
  have hne:((q:Int)*64 != (n:Int))=true:=by rw[bne_iff_ne];omega
  clear h2 hq;go_enter Tryz.func147,Tryz.ntmps147;go_wp2_with fail;refine(rsize_any A 64 c (bs.take 64) _ HV64.out HL64.out).mono ?_;rintro e w3 ⟨rfl,rfl⟩;rw[HQ.out];go_wp2;generalize (((((w2.setCell ⟨g,0,none⟩ (.int .i64 0)).setCell ⟨g,1,none⟩ (.int .i64 0)).setCell ⟨g,2,none⟩ (.int .i64 0)).setCell ⟨g,3,none⟩ (.slice none 0 0)).setCell ⟨g,4,none⟩ (.slice none 0 0))=W at HBW HKW ⊢;obtain⟨t0,t1,t2,t3,t4⟩:=cell5 HBW.out;refine bodyPost_ret (v:= .tuple #[.agg #[.int .i64 0,.int .i64 0,.int .i64 0,.slice none 0 0,.slice none 0 0],.int .i64 0,.int .i64 2]) ?_ rfl ⟨rfl,HKW.out⟩
  simp [results,Tryz.results147,go_sem,t0,t1,t2,t3,t4]

theorem part_block (P:Option Addr)(n c j:Nat)(a b:Int)(bs:List UInt8)(w:World)(hv:Vals w [] P (bs.map B))(hl:bs.length=n)(hnc:n≤c)(hj:64*(j+2)≤n)(hn:n≤65536)(ha:a=((64*(j+1):Nat):Int))(hb:b=((64*(j+2):Nat):Int)):
  Calls Tryz.prog 72 #[.slice P n c,.int .i64 a,.int .i64 b] w fun e w'=>
   ∃ g,e= .returned (.slice (some ⟨g,0,none⟩) 64 64)∧w.heap.size≤g∧Arr w' g 64 ((bs.drop (64*(j+1))).take 64)∧Kept [] w w':=by
 have h:=base.part_any P n c a b bs w hv hl hnc (by omega) (by omega) (by omega) (by omega);rw[show(b-a).toNat=64 by omega,show a.toNat=64*(j+1)by omega]at h;exact h
theorem equal_len (A1 A2:Option Addr)(n1 n2 c1 c2:Nat)(xs ys:List UInt8)(w:World)(hn1:xs.length=n1)(hn2:ys.length=n2)(h1:Vals w [] A1 (xs.map B))(h2:Vals w [] A2 (ys.map B))(hm:n1≤140737488355328):
  Calls Tryz.prog 115 #[.slice A1 n1 c1,.slice A2 n2 c2] w fun e w'=>e= .returned (.bool (decide (xs=ys)))∧Kept [] w w':=by
 subst hn1 hn2
 exact(base.equal_any A1 A2 c1 c2 xs ys w h1 h2 hm).mono fun e w' ⟨h,d,hw⟩=>⟨h,hw▸(Kept.refl [] w).drewN d⟩
theorem own_lt {w:World}{base:Nat}{e:TypeId}{v:Value}{n:Nat}{xs:List Value}(h:w.ownsRow base e 1 v n xs):∀ i∈v.ownBlock.toList,base≤i∧i<w.heap.size:=by
 intro i hi
 rcases h.2 with⟨rfl,_⟩|⟨g,cap,cur,rfl,hb,hg,_⟩
 ·simp [Value.ownBlock]at hi
 ·simp [Value.ownBlock]at hi
  subst hi;exact⟨hb,Blk.lt (show Blk w _ e cur from hg)⟩
theorem blocksOf_succ (bs:List UInt8)(j:Nat):blocksOf bs (j+1)=blocksOf bs j++[(bs.drop (64*(j+1))).take 64]:=by simp [blocksOf,List.range_succ]
theorem raw_len (bs:List UInt8)(h:64≤bs.length)(h6:nOf bs≤6):(rawOf bs).length=7*nOf bs:=by
 unfold rawOf;rw[List.length_take,List.length_drop]
 omega
theorem raw_decode (bs:List UInt8)(h:64≤bs.length)(h6:nOf bs≤6):item.decode (rawOf bs)=if allMay (itemsOf (rawOf bs))then(itemsOf (rawOf bs),0)else([],2):=by
 have hl:=raw_len bs h h6;unfold item.decode
 by_cases hm:allMay (itemsOf (rawOf bs))
 ·rw[if_pos ⟨⟨by omega,by omega⟩,hm⟩,if_pos hm]
 ·rw[if_neg (fun hn=>hm hn.2),if_neg hm]

theorem rof_in (Q:List Nat)(A:Option Addr)(n c:Nat)(bs:List UInt8)(w:World)(hQ:∀ x∈Q,x<w.heap.size)(hv:Vals w [] A (bs.map B))(hl:bs.length=n)(hnc:n≤c)(h1:64≤n)(h2:64*sizeOf (bs.take 64)=n)(hn:n≤65536):
  Calls Tryz.prog 147 #[.slice A n c] w fun e w'=>∃ (L:Option Addr) (m lc:Nat) (P:Option Addr) (k pc:Nat),
   e= .returned (.tuple #[.agg #[.int .i64 (decode bs).1.m,.int .i64 (decode bs).1.l,.int .i64 (decode bs).1.p,.slice L m lc,.slice P k pc],.int .i64 (decode bs).2.1,.int .i64 (decode bs).2.2])∧RcIn w' Q L m P k (decode bs).1∧Kept [] w w':=by
 obtain⟨_,⟨hn1,hn6⟩,hkn,hlen⟩:=size_pos bs (by rw[h2,hl]) (by rw[hl];exact h1);have HV:=hide hv;have HQQ:=hide hQ;clear hQ;have HL:=hide hl;obtain⟨w1,hw1⟩:∃ w1,w.alloc (.cells #[.int .i64 0,.int .i64 0,.int .i64 0,.slice none 0 0,.slice none 0 0] 111)=w1:=⟨_,rfl⟩;obtain⟨w2,hw2⟩:∃ w2,w1.alloc (.cells #[.int .i64 0,.int .i64 0,.int .i64 0,.slice none 0 0,.slice none 0 0] 111)=w2:=⟨_,rfl⟩;obtain⟨g,hg⟩:∃ g,w.heap.size=g:=⟨_,rfl⟩;obtain⟨s,hs⟩:∃ s,w1.heap.size=s:=⟨_,rfl⟩
 have hb1:Blk w1 g 111 #[.int .i64 0,.int .i64 0,.int .i64 0,.slice none 0 0,.slice none 0 0]:=by rw[←hw1,←hg];exact Blk.new w _ _
 have hb2:Blk w2 g 111 #[.int .i64 0,.int .i64 0,.int .i64 0,.slice none 0 0,.slice none 0 0]:=by rw[←hw2];exact hb1.alloc _
 have hs2:Blk w2 s 111 #[.int .i64 0,.int .i64 0,.int .i64 0,.slice none 0 0,.slice none 0 0]:=by rw[←hw2,←hs];exact Blk.new w1 _ _
 have hk2:Kept [] w w2:=by rw[←hw2,←hw1];exact((Kept.refl [] w).alloc _).alloc _
 have hgs:g<s:=by rw[←hs];exact hb1.lt
 have HG:=hide (show w.heap.size≤g∧w.heap.size≤s by omega)
 have hlt:¬((n:Int)<64):=by omega
 have hq7:=size_le (bs.take 64);have HV64:Hid (Vals w2 [] A ((bs.take 64).map B)):=hide (by rw[List.map_take];exact(hv.kept hk2 (by simp)).first 64);have HL64:Hid ((bs.take 64).length=64):=hide (by rw[List.length_take,hl];omega);obtain⟨q,hq⟩:∃ q,sizeOf (bs.take 64)=q:=⟨_,rfl⟩;rw[hq]at h2 hq7;have HQ:=hide hq
 have hne:((q:Int)*64 != (n:Int))=false:=by rw[bne_eq_false_iff_eq];omega
 have G1:=hide (num_here bs 2 4 (numAt bs 2 4) rfl (by omega) rfl);have G2:=hide (num_here bs 6 4 (numAt bs 6 4) rfl (by omega) rfl);have G3:=hide (num_here bs 10 4 (numAt bs 10 4) rfl (by omega) rfl);have hp4:=numAt_pos bs 14 1;have hp5:=numAt_pos bs 15 1;have hrd:readOf bs=⟨numAt bs 2 4,numAt bs 6 4,numAt bs 10 4,itemsOf (rawOf bs),blocksOf bs (kOf bs)⟩:=rfl;have hdec:=raw_decode bs (by omega) hn6;have hrl:=raw_len bs (by omega) hn6;have hrw:(bs.drop 16).take (7*nOf bs)=rawOf bs:=rfl
 have hq4:numAt bs 14 1=(nOf bs:Int):=by unfold nOf;omega
 have hq5:numAt bs 15 1=(kOf bs:Int):=by unfold kOf;omega
 obtain⟨x1,hx1⟩:∃ x,numAt bs 2 4=x:=⟨_,rfl⟩;obtain⟨x2,hx2⟩:∃ x,numAt bs 6 4=x:=⟨_,rfl⟩;obtain⟨x3,hx3⟩:∃ x,numAt bs 10 4=x:=⟨_,rfl⟩;obtain⟨nn,hnn⟩:∃ nn,nOf bs=nn:=⟨_,rfl⟩;obtain⟨kk,hkk⟩:∃ kk,kOf bs=kk:=⟨_,rfl⟩;obtain⟨r,hr⟩:∃ r,rawOf bs=r:=⟨_,rfl⟩;rw[hx1,hx2,hx3,hkk,hr]at hrd;rw[hx1]at G1;rw[hx2]at G2;rw[hx3]at G3;rw[hnn]at hq4 hrl hrw hn1 hn6 hkn;rw[hkk]at hq5 hkn hlen;rw[hr]at hdec hrl hrw;have G4:=hide (num_here bs 14 1 (nn:Int) rfl (by omega) hq4);have G5:=hide (num_here bs 15 1 (kk:Int) rfl (by omega) hq5);have HRD:=hide hrd;have HDEC:=hide hdec;have HRL:=hide hrl;have HRW:=hide hrw
 have hnk:n=64*(1+kk):=by omega
 have HNK:=hide hnk;have HD:Hid (decode bs=if (readOf bs).may=true∧(readOf bs).bytes=bs then(readOf bs,((readOf bs).sum:Int),0)else(Rc.zero,0,2)):=hide rfl;have HBAD:Hid (¬allMay (itemsOf r)→decode bs=(Rc.zero,0,2)):=hide (fun hm=>decode_items bs (by rw[hr];exact hm));have HB2:=hide hb2;have HS2:=hide hs2;have HK2:=hide hk2;clear hb1 hb2 hs2 hk2 hv hl h2 hq hp4 hp5 hrd hdec hrl hrw hq4 hq5 hx1 hx2 hx3 hnn hkk hr hlen hnk;go_enter Tryz.func147,Tryz.ntmps147;go_wp2_with fail;refine(rsize_any A 64 c (bs.take 64) _ HV64.out HL64.out).mono ?_;rintro e w3 ⟨rfl,rfl⟩;rw[HQ.out];clear HV64 HL64;go_wp2_with fail;refine(rfrom_ok A n c bs _ HL.out hnc (HV.out.kept HK2.out (by simp)) hn).mono ?_;rintro e w3 ⟨p,b,rfl,hp,hb,hr,hk⟩
 have hps:s<p:=by have:=HS2.out.lt;omega
 have hbs:s<b:=by have:=HS2.out.lt;omega
 have HB3:=hide (hk.blk HB2.out (by simp));have HS3:=hide (hk.blk HS2.out (by simp));have HK3:=hide (HK2.out.trans hk (by simp));have HPB:=hide (show w.heap.size≤p∧w.heap.size≤b by have:=HK2.out.size;omega);have z1:=hr.c1;have z2:=hr.f1;have HF3:=hide (hr.goto 2 (by have:=HL.out;show 2≤bs.length;omega) 2 rfl);have hkg:=(Kept.refl [p] w3).set_ (b:=p) (.inl (by simp)) 1 (.int .i64 2);have HBG:=hide (hkg.blk HB3.out (by simp;omega));have HSG:=hide (hkg.blk HS3.out (by simp;omega));have HKG:=hide (HK3.out.trans hkg (by have:=HPB.out;simp;omega));clear hr hk hp hb hkg HB2 HS2 HK2 HB3 HS3 HK3;go_wp2_with fail;refine(rnum_any p b _ _ 4 _ _ HF3.out G1.out.1 G1.out.2).mono ?_;rintro e w4 ⟨rfl,hr,hk⟩;have hs':Blk w4 s 111 #[.int .i64 0,.int .i64 0,.int .i64 0,.slice none 0 0,.slice none 0 0]:=hk.blk HSG.out (by simp;omega);have z1:=hs'.cell 0;have z2:=hs'.frozen 0;have HS4:Hid (Blk (w4.setCell ⟨s,0,none⟩ (.int .i64 x1)) s 111 #[.int .i64 x1,.int .i64 0,.int .i64 0,.slice none 0 0,.slice none 0 0]):=hide (hs'.set_ 0 _);have hkg:=(Kept.refl [s] w4).set_ (b:=s) (.inl (by simp)) 0 (.int .i64 x1);have HF4:=hide (hr.kept hkg (by simp;omega) (by simp;omega));have HB4:=hide (hkg.blk (hk.blk HBG.out (by simp;omega)) (by simp;omega));have HK4:=hide ((HKG.out.trans hk (by have:=HPB.out;simp;omega)).trans hkg (by have:=HG.out;simp;omega));clear hr hk hs' hkg HF3 HBG HSG HKG;go_wp2_with fail;refine(rnum_any p b _ _ 4 _ _ HF4.out G2.out.1 G2.out.2).mono ?_;rintro e w5 ⟨rfl,hr,hk⟩;have hs':Blk w5 s 111 #[.int .i64 x1,.int .i64 0,.int .i64 0,.slice none 0 0,.slice none 0 0]:=hk.blk HS4.out (by simp;omega)
 have z1:=hs'.cell 1;have z2:=hs'.frozen 1;have HS5:Hid (Blk (w5.setCell ⟨s,1,none⟩ (.int .i64 x2)) s 111 #[.int .i64 x1,.int .i64 x2,.int .i64 0,.slice none 0 0,.slice none 0 0]):=hide (hs'.set_ 1 _);have hkg:=(Kept.refl [s] w5).set_ (b:=s) (.inl (by simp)) 1 (.int .i64 x2);have HF5:=hide (hr.kept hkg (by simp;omega) (by simp;omega));have HB5:=hide (hkg.blk (hk.blk HB4.out (by simp;omega)) (by simp;omega));have HK5:=hide ((HK4.out.trans hk (by have:=HPB.out;simp;omega)).trans hkg (by have:=HG.out;simp;omega));clear hr hk hs' hkg HF4 HB4 HS4 HK4;go_wp2_with fail;refine(rnum_any p b _ _ 4 _ _ HF5.out G3.out.1 G3.out.2).mono ?_;rintro e w6 ⟨rfl,hr,hk⟩;have hs':Blk w6 s 111 #[.int .i64 x1,.int .i64 x2,.int .i64 0,.slice none 0 0,.slice none 0 0]:=hk.blk HS5.out (by simp;omega);have z1:=hs'.cell 2;have z2:=hs'.frozen 2;have HS6:Hid (Blk (w6.setCell ⟨s,2,none⟩ (.int .i64 x3)) s 111 #[.int .i64 x1,.int .i64 x2,.int .i64 x3,.slice none 0 0,.slice none 0 0]):=hide (hs'.set_ 2 _);have hkg:=(Kept.refl [s] w6).set_ (b:=s) (.inl (by simp)) 2 (.int .i64 x3);have HF6:=hide (hr.kept hkg (by simp;omega) (by simp;omega));have HB6:=hide (hkg.blk (hk.blk HB5.out (by simp;omega)) (by simp;omega));have HK6:=hide ((HK5.out.trans hk (by have:=HPB.out;simp;omega)).trans hkg (by have:=HG.out;simp;omega));clear hr hk hs' hkg HF5 HB5 HS5 HK5;go_wp2_with fail;refine(rnum_any p b _ _ 1 _ _ HF6.out G4.out.1 G4.out.2).mono ?_;rintro e w7 ⟨rfl,hr,hk⟩;have HF7:=hide hr;have HB7:=hide (hk.blk HB6.out (by simp;omega))
 have HS7:=hide (hk.blk HS6.out (by simp;omega));have HK7:=hide (HK6.out.trans hk (by have:=HPB.out;simp;omega));clear hr hk HF6 HB6 HS6 HK6;go_wp2_with fail;refine(rnum_any p b _ _ 1 _ _ HF7.out G5.out.1 G5.out.2).mono ?_;rintro e w8 ⟨rfl,hr,hk⟩;have HF8:=hide hr;have HB8:=hide (hk.blk HB7.out (by simp;omega));have HS8:=hide (hk.blk HS7.out (by simp;omega));have HK8:=hide (HK7.out.trans hk (by have:=HPB.out;simp;omega));clear hr hk HF7 HB7 HS7 HK7;go_wp2_with fail;refine(rtake_ok p b ⟨bs,16⟩ (7*(nn:Int)) _ HF8.out (by omega) (by have:=HL.out;show((16:Nat):Int)+7*(nn:Int)≤(bs.length:Int);omega)).mono ?_;rintro e w9 ⟨gr,rfl,hgr,har,hr,hk⟩;rw[show(7*(nn:Int)).toNat=7*nn by omega]at har ⊢
 have harr:Arr w9 gr (7*nn) r:=by rw[←HRW.out];exact har
 have HA9:=hide harr;have HB9:=hide (hk.blk HB8.out (by simp;omega));have HS9:=hide (hk.blk HS8.out (by simp;omega));have HK9:=hide (HK8.out.trans hk (by have:=HPB.out;simp;omega));clear hr hk har harr hgr HF8 HB8 HS8 HK8 G1 G2 G3 G4 G5;go_wp2_with fail;refine(item.rof_far (some ⟨gr,0,none⟩) (7*nn) (7*nn) r _ (HA9.out.vals (S:=[]) (by simp)) HRL.out (Nat.le_refl _) (by omega)).mono ?_;rintro e w10 ⟨L,m,lc,rfl,hm,hit,hk⟩;rw[HDEC.out]at hm hit ⊢;have HB10:=hide (hk.blk HB9.out (by simp));have HS10:=hide (hk.blk HS9.out (by simp));have HK10:=hide (HK9.out.trans hk (by simp));have hs9:=HS9.out.lt
 by_cases hmy:allMay (itemsOf r)
 ·rw[if_pos hmy]at hm hit ⊢;obtain⟨its,hits⟩:∃ its,itemsOf r=its:=⟨_,rfl⟩;rw[hits]at hm hit HRD;have HI10:=hide (hit (g::s::Q) (List.forall_mem_cons.2 ⟨by omega,List.forall_mem_cons.2 ⟨by omega,fun x hx=>by have h1:=HQQ.out x hx;have h2:=HK9.out.size;omega⟩⟩));have HM:=hide hm;have z1:=HS10.out.cell 3;have z2:=HS10.out.frozen 3;obtain⟨Bz,hBz⟩:∃ Bz,w10.heap.size=Bz:=⟨_,rfl⟩
  have hsB:s<Bz:=by rw[←hBz];exact HS10.out.lt
  have HBZ:=hide hBz;have HWB:=hide (show w.heap.size≤Bz by have:=HK10.out.size;omega);have hk3:=(Kept.refl [s] w10).set_ (b:=s) (.inl (by simp)) 3 (.slice L m lc);have HS11:Hid (Blk (w10.setCell ⟨s,3,none⟩ (.slice L m lc)) s 111 #[.int .i64 x1,.int .i64 x2,.int .i64 x3,.slice L m lc,.slice none 0 0]):=hide (HS10.out.set_ 3 _);have HB11:=hide (hk3.blk HB10.out (by simp;omega));have HK11:=hide (HK10.out.trans hk3 (by have:=HG.out;simp;omega))
  have HI11:Hid (∀ S:List Nat,(∀ i∈S,i=g∨i=s∨i∈Q∨Bz≤i)→Items (w10.setCell ⟨s,3,none⟩ (.slice L m lc)) S L its):=hide (fun S hS=>by
   have h1:Vals w10 (s::S) L (valsOf its):=Vals.away HI10.out (fun i hi=>by
    rcases List.mem_cons.1 hi with rfl|hi
    ·exact .inl (by simp)
    ·rcases hS i hi with rfl|rfl|h|h
     ·exact .inl (by simp)
     ·exact .inl (by simp)
     ·exact .inl (by simp [h])
     ·exact .inr (by rw[HBZ.out];exact h))
   exact(h1.kept hk3 (by simp)).mono (fun i hi=>List.mem_cons_of_mem _ hi))
  have hz11:Bz≤(w10.setCell ⟨s,3,none⟩ (.slice L m lc)).heap.size:=by have:=hk3.size;omega
  clear hit hm hk hk3 hBz HI10 HB10 HS10 HK10 HB9 HS9 HK9 HA9;go_wp2
  go_loopw [13] (fun i wr=>∃ (j:Nat) (v:Value) (vs:List Value),j≤kk∧i= .int .i64 ((j:Int)+1)∧Hid (Blk wr s 111 #[.int .i64 x1,.int .i64 x2,.int .i64 x3,.slice L m lc,v])∧Hid (wr.ownsRow Bz 41 1 v j vs)∧Hid (PartsIn wr (g::s::(v.ownBlock.toList++Q)) vs (blocksOf bs j))∧Hid (∀ S:List Nat,(∀ i∈S,i=g∨i=s∨i∈Q∨Bz≤i)→Items wr S L its)∧Hid (Blk wr g 111 #[.int .i64 0,.int .i64 0,.int .i64 0,.slice none 0 0,.slice none 0 0])∧Hid (Kept [] w wr)∧Bz≤wr.heap.size) (fun i wr=>kk+1-(intOf i).toNat)
  case atStart=>exact⟨0,.slice none 0 0,[],by omega,rfl,HS11,hide (World.ownsRow_nil _ _ _ _),hide (PartsIn.nil _ _),HI11,HB11,HK11,hz11⟩
  case round=>
   obtain⟨j,v,vs,hj,rfl,HSr,HOr,HPr,HIr,HBr,HKr,hzr⟩:=hrel;obtain⟨A2,cc,rfl,hcc,_,hvA,hown⟩:=base.own_slice HOr.out
   by_cases hlt2:j<kk
   ·have hle:(j:Int)+1≤kk:=by omega
    have hlen2:64*(j+2)≤n:=by have:=HNK.out;omega
    have hvl:vs.length=j:=by have:=HOr.out.1;omega
    have c4:(World.drew wr).cell? ⟨s,4,none⟩=some (.slice A2 j cc):=HSr.out.cell 4;have HVL:=hide hvl;have HLEN2:=hide hlen2;have HOW:=hide (own_lt HOr.out);have hsr:=HSr.out.lt;have hgr:=HBr.out.lt
    have e1:IntKind.i64.wrap (((j:Int)+1)*64)=((64*(j+1):Nat):Int):=by rw[IntWalk.i64_in _ (by omega)];omega
    have e2:IntKind.i64.wrap (IntKind.i64.wrap ((j:Int)+1+1)*64)=((64*(j+2):Nat):Int):=by
     rw[IntWalk.i64_in ((j:Int)+1+1) (by omega),IntWalk.i64_in _ (by omega)]
     omega
    have E1:=hide e1;have E2:=hide e2;clear hvA hown hvl hlen2 e1 e2 hcc;go_wp2
    -- REGION of
    refine wp_region_noPanic ?_;refine wp_region_held_drew (S:=fun _=>True) (by kernel_rfl) (by trivial) (fun hHeld=> ?_);refine tK 0 70 rfl ?_;refine tK 2 72 rfl ?_;refine tK 3 73 rfl ?_;refine tK 4 74 rfl ?_;refine tK 5 75 rfl ?_;refine tK 6 76 rfl ?_;refine tK 7 77 rfl ?_;refine next_two (i:=1) (j:=8) (o:=⟨some 71,_,_,_,_,_⟩) (o':=⟨some 78,_,_,_,_,_⟩) (by kernel_rfl) rfl (by rfl) rfl (by rfl) (fun K hK=> ?_) (fun K hK=> ?_)
    ·go_simp;refine hK _ _ trivial ?_;clear hK K
     try simp only[Act.put,pA,pB,pC]
     refine hO 8 (some 78) rfl fun K hK=> ?_;go_simp;refine(part_block A n c j _ _ bs _ (HV.out.kept (HKr.out.drewN 1) (by simp)) HL.out hnc HLEN2.out hn E1.out E2.out).mono ?_;rintro e w8 ⟨gp,rfl,hgp,harr,hkp⟩;have c4w:=hkp.cell c4 (by simp);have c4x:(w8.alloc (.cells #[.slice (some ⟨gp,0,none⟩) 64 64] 41)).cell? ⟨s,4,none⟩=some (.slice A2 j cc):=((Kept.refl [] w8).alloc _).cell c4w (by simp);refine hK.out _ _ (by trivial) (fun hHeld=>tS ?_);clear hK K;refine hO 9 (some 79) rfl fun K hK=> ?_;go_simp;refine hK.out _ _ (by trivial) (fun hHeld=>tS ?_);clear hK K;refine hO 10 (some 80) rfl fun K hK=> ?_;refine wp_append_vals (o:=⟨some 80,_,_,_,_,_⟩) (.tmp 71) (.tmp 79) 97 rfl Bz 41 (.slice none 0 0) 1 24 Tryz.underlying97 slice_info rfl (by omega) (.slice A2 j cc) j vs (by go_simp) (owns_kept (owns_kept HOr.out (hkp.mono (S':=[]) (by simp)|>fun h=>((Kept.refl [] wr).drewN 1).trans h (by simp)) (by simp)) ((Kept.refl [] w8).alloc _) (by simp)) [] _ 1 1 [.slice (some ⟨gp,0,none⟩) 64 64] (by go_simp) rfl (vals_slice _ _ _) (oneCell_slice _ _ _) (by simp only[maxLen];omega) (by omega) (by have:=hkp.size;simp at this ⊢;omega) ?_;intro v1 w10 hown1 hk1 hat1;have hS10:=hk1.blk ((hkp.blk (HSr.out.drewN 1) (by simp)).alloc (.cells #[.slice (some ⟨gp,0,none⟩) 64 64] 41)) (fun hm=>by have:=(HOW.out s hm).1;omega);have y4:=hS10.cell 4;have y5:=hS10.frozen 4;obtain⟨A3,c3,rfl,_⟩:=base.own_slice hown1;refine hK.out _ _ (by trivial) (fun hHeld=>tS ?_);clear hK K;refine tK 11 81 rfl ?_;refine hO 12 none rfl fun K hK=> ?_
     go_simp;refine hK.out _ _ (by trivial) (fun hHeld=>tS ?_);clear hK K;refine wpAnyH_done (by kernel_rfl) ?_ _;refine NoPanic.normal ?_;clear c4x;have hkd:Kept [] wr w8:=((Kept.refl [] wr).drewN 1).trans hkp (by simp);have hsz8:=hkd.size;have hgp2:wr.heap.size≤gp:=hgp;have hgl:=harr.lt;have hk89:Kept [] w8 (w8.alloc (.cells #[.slice (some ⟨gp,0,none⟩) 64 64] 41)):=(Kept.refl [] w8).alloc _
     have hz9:(w8.alloc (.cells #[.slice (some ⟨gp,0,none⟩) 64 64] 41)).heap.size=w8.heap.size+1:=by simp
     generalize w8.alloc (.cells #[.slice (some ⟨gp,0,none⟩) 64 64] 41)=w9 at hk1 hat1 hk89 hz9;have hOW:=HOW.out;generalize (Value.slice A2 j cc).ownBlock=ob at hk1 hat1 hOW HPr
     have hlb:((bs.drop (64*(j+1))).take 64).length=64:=by have:=HL.out;have:=HLEN2.out;rw[List.length_take,List.length_drop];omega
     have hP9:PartsIn w9 (w9.heap.size::g::s::(ob.toList++Q)) vs (blocksOf bs j):=((HPr.out.kept hkd (by simp)).away (fun i hi=>by
      rcases List.mem_cons.1 hi with rfl|hi
      ·exact .inr (by omega)
      ·exact .inl hi)).kept hk89 (by simp)
     have hVg:Vals w9 (w9.heap.size::g::s::(ob.toList++Q)) (some ⟨gp,0,none⟩) (((bs.drop (64*(j+1))).take 64).map B):=(harr.kept hk89 (by simp)).vals (fun hm=>by
      rcases List.mem_cons.1 hm with hm|hm
      ·omega
      rcases List.mem_cons.1 hm with hm|hm
      ·omega
      rcases List.mem_cons.1 hm with hm|hm
      ·omega
      rcases List.mem_append.1 hm with hm|hm
      ·have:=(hOW gp hm).2;omega
      ·have h1:=HQQ.out gp hm;have h2:=HKr.out.size;omega)
     have hk11:=(Kept.refl [s] w10).set_ (b:=s) (.inl (by simp)) 4 (.slice A3 (j+1) c3);have hS11:=hS10.set_ 4 (.slice A3 (j+1) c3);have hb10:=hk1.blk (hk89.blk (hkd.blk HBr.out (by simp)) (by simp)) (fun hm=>by have:=(hOW g hm).1;omega);have hs10:=hk1.size;generalize w10.setCell ⟨s,4,none⟩ (.slice A3 (j+1) c3)=w11 at hk11 hS11 ⊢
     have HP11:Hid (PartsIn w11 (g::s::((Value.slice A3 (j+1) c3).ownBlock.toList++Q)) (vs++[.slice (some ⟨gp,0,none⟩) 64 64]) (blocksOf bs (j+1))):=hide (by
      rw[blocksOf_succ];refine(((hP9.snoc (some ⟨gp,0,none⟩) 64 64 _ hlb (by omega) hVg).kept hk1 (fun i hi=>by simp only[List.mem_cons];exact .inr (.inr (.inr (List.mem_append_left _ hi))))).kept hk11 (by simp)).less (fun i hi=> ?_)
      rcases List.mem_cons.1 hi with rfl|hi
      ·simp
      rcases List.mem_cons.1 hi with rfl|hi
      ·simp
      rcases(List.mem_append.1 hi).symm with hi|hi
      ·simp only[List.mem_cons];exact .inr (.inr (.inr (List.mem_append_right _ hi)))
      rcases hat1 with h|h
      ·rw[h]at hi;simp only[List.mem_cons];exact .inr (.inr (.inr (List.mem_append_left _ hi)))
      ·rw[h]at hi;simp at hi
       simp [hi])
     have HO11:=hide (owns_kept hown1 hk11 (by simp;omega))
     have HI12:Hid (∀ S:List Nat,(∀ i∈S,i=g∨i=s∨i∈Q∨Bz≤i)→Items w11 S L its):=hide (fun S hS=>by
      have h1:Vals wr (s::(ob.toList++S)) L (valsOf its):=HIr.out _ (fun i hi=>by
       rcases List.mem_cons.1 hi with rfl|hi
       ·exact .inr (.inl rfl)
       rcases List.mem_append.1 hi with hi|hi
       ·exact .inr (.inr (.inr (hOW i hi).1))
       ·exact hS i hi)
      exact((((h1.kept hkd (by simp)).kept hk89 (by simp)).kept hk1 (fun i hi=>List.mem_cons_of_mem _ (List.mem_append_left _ hi))).kept hk11 (by simp)).mono (fun i hi=>List.mem_cons_of_mem _ (List.mem_append_right _ hi)))
     have HB12:=hide (hk11.blk hb10 (by simp;omega));have HS12:=hide hS11;have HK12:=hide ((((HKr.out.trans hkd (by simp)).trans hk89 (by simp)).trans hk1 (fun i hi=> .inr (by have:=(hOW i hi).1;have:=HWB.out;omega))).trans hk11 (by have:=HG.out;simp;omega))
     have hz12:Bz≤w11.heap.size:=by have:=hk11.size;omega
     clear hkd hgp2 hgp hgl hk89 hz9 hOW hlb hP9 hVg hk11 hS11 hb10 hs10 hown1 hk1 hat1 hS10 y4 y5 harr hkp c4w c4 hHeld hsz8;go_wp2;go_roundw
     case rel=>exact⟨j+1,.slice A3 (j+1) c3,_,by omega,by go_num,HS12,HO11,HP11,HI12,HB12,HK12,hz12⟩
     case measure=>simp [intOf];omega
    ·go_simp;refine(part_block A n c j _ _ bs _ (HV.out.kept (HKr.out.drewN 1) (by simp)) HL.out hnc HLEN2.out hn E1.out E2.out).mono ?_;rintro e w8 ⟨gp,rfl,hgp,harr,hkp⟩;have c4w:=hkp.cell c4 (by simp);have c4x:(w8.alloc (.cells #[.slice (some ⟨gp,0,none⟩) 64 64] 41)).cell? ⟨s,4,none⟩=some (.slice A2 j cc):=((Kept.refl [] w8).alloc _).cell c4w (by simp);refine hK _ _ trivial ?_;clear hK K
     try simp only[Act.put,pA,pB,pC]
     refine next_two (i:=1) (j:=9) (o:=⟨some 71,_,_,_,_,_⟩) (o':=⟨some 79,_,_,_,_,_⟩) (by kernel_rfl) rfl (by rfl) rfl (by rfl) (fun K hK=> ?_) (fun K hK=> ?_)
     ·go_simp;refine hK _ _ trivial ?_;clear hK K
      try simp only[Act.put,pA,pB,pC]
      refine hO 9 (some 79) rfl fun K hK=> ?_;go_simp;refine hK.out _ _ (by trivial) (fun hHeld=>tS ?_);clear hK K;refine hO 10 (some 80) rfl fun K hK=> ?_;refine wp_append_vals (o:=⟨some 80,_,_,_,_,_⟩) (.tmp 71) (.tmp 79) 97 rfl Bz 41 (.slice none 0 0) 1 24 Tryz.underlying97 slice_info rfl (by omega) (.slice A2 j cc) j vs (by go_simp) (owns_kept (owns_kept HOr.out (hkp.mono (S':=[]) (by simp)|>fun h=>((Kept.refl [] wr).drewN 1).trans h (by simp)) (by simp)) ((Kept.refl [] w8).alloc _) (by simp)) [] _ 1 1 [.slice (some ⟨gp,0,none⟩) 64 64] (by go_simp) rfl (vals_slice _ _ _) (oneCell_slice _ _ _) (by simp only[maxLen];omega) (by omega) (by have:=hkp.size;simp at this ⊢;omega) ?_;intro v1 w10 hown1 hk1 hat1;have hS10:=hk1.blk ((hkp.blk (HSr.out.drewN 1) (by simp)).alloc (.cells #[.slice (some ⟨gp,0,none⟩) 64 64] 41)) (fun hm=>by have:=(HOW.out s hm).1;omega);have y4:=hS10.cell 4;have y5:=hS10.frozen 4;obtain⟨A3,c3,rfl,_⟩:=base.own_slice hown1;refine hK.out _ _ (by trivial) (fun hHeld=>tS ?_);clear hK K;refine tK 11 81 rfl ?_;refine hO 12 none rfl fun K hK=> ?_;go_simp;refine hK.out _ _ (by trivial) (fun hHeld=>tS ?_);clear hK K;refine wpAnyH_done (by kernel_rfl) ?_ _;refine NoPanic.normal ?_;clear c4x;have hkd:Kept [] wr w8:=((Kept.refl [] wr).drewN 1).trans hkp (by simp);have hsz8:=hkd.size;have hgp2:wr.heap.size≤gp:=hgp;have hgl:=harr.lt;have hk89:Kept [] w8 (w8.alloc (.cells #[.slice (some ⟨gp,0,none⟩) 64 64] 41)):=(Kept.refl [] w8).alloc _
      have hz9:(w8.alloc (.cells #[.slice (some ⟨gp,0,none⟩) 64 64] 41)).heap.size=w8.heap.size+1:=by simp
      generalize w8.alloc (.cells #[.slice (some ⟨gp,0,none⟩) 64 64] 41)=w9 at hk1 hat1 hk89 hz9;have hOW:=HOW.out;generalize (Value.slice A2 j cc).ownBlock=ob at hk1 hat1 hOW HPr
      have hlb:((bs.drop (64*(j+1))).take 64).length=64:=by have:=HL.out;have:=HLEN2.out;rw[List.length_take,List.length_drop];omega
      have hP9:PartsIn w9 (w9.heap.size::g::s::(ob.toList++Q)) vs (blocksOf bs j):=((HPr.out.kept hkd (by simp)).away (fun i hi=>by
       rcases List.mem_cons.1 hi with rfl|hi
       ·exact .inr (by omega)
       ·exact .inl hi)).kept hk89 (by simp)
      have hVg:Vals w9 (w9.heap.size::g::s::(ob.toList++Q)) (some ⟨gp,0,none⟩) (((bs.drop (64*(j+1))).take 64).map B):=(harr.kept hk89 (by simp)).vals (fun hm=>by
       rcases List.mem_cons.1 hm with hm|hm
       ·omega
       rcases List.mem_cons.1 hm with hm|hm
       ·omega
       rcases List.mem_cons.1 hm with hm|hm
       ·omega
       rcases List.mem_append.1 hm with hm|hm
       ·have:=(hOW gp hm).2;omega
       ·have h1:=HQQ.out gp hm;have h2:=HKr.out.size;omega)
      have hk11:=(Kept.refl [s] w10).set_ (b:=s) (.inl (by simp)) 4 (.slice A3 (j+1) c3);have hS11:=hS10.set_ 4 (.slice A3 (j+1) c3);have hb10:=hk1.blk (hk89.blk (hkd.blk HBr.out (by simp)) (by simp)) (fun hm=>by have:=(hOW g hm).1;omega);have hs10:=hk1.size;generalize w10.setCell ⟨s,4,none⟩ (.slice A3 (j+1) c3)=w11 at hk11 hS11 ⊢
      have HP11:Hid (PartsIn w11 (g::s::((Value.slice A3 (j+1) c3).ownBlock.toList++Q)) (vs++[.slice (some ⟨gp,0,none⟩) 64 64]) (blocksOf bs (j+1))):=hide (by
       rw[blocksOf_succ];refine(((hP9.snoc (some ⟨gp,0,none⟩) 64 64 _ hlb (by omega) hVg).kept hk1 (fun i hi=>by simp only[List.mem_cons];exact .inr (.inr (.inr (List.mem_append_left _ hi))))).kept hk11 (by simp)).less (fun i hi=> ?_)
       rcases List.mem_cons.1 hi with rfl|hi
       ·simp
       rcases List.mem_cons.1 hi with rfl|hi
       ·simp
       rcases(List.mem_append.1 hi).symm with hi|hi
       ·simp only[List.mem_cons];exact .inr (.inr (.inr (List.mem_append_right _ hi)))
       rcases hat1 with h|h
       ·rw[h]at hi;simp only[List.mem_cons];exact .inr (.inr (.inr (List.mem_append_left _ hi)))
       ·rw[h]at hi;simp at hi
        simp [hi])
      have HO11:=hide (owns_kept hown1 hk11 (by simp;omega))
      have HI12:Hid (∀ S:List Nat,(∀ i∈S,i=g∨i=s∨i∈Q∨Bz≤i)→Items w11 S L its):=hide (fun S hS=>by
       have h1:Vals wr (s::(ob.toList++S)) L (valsOf its):=HIr.out _ (fun i hi=>by
        rcases List.mem_cons.1 hi with rfl|hi
        ·exact .inr (.inl rfl)
        rcases List.mem_append.1 hi with hi|hi
        ·exact .inr (.inr (.inr (hOW i hi).1))
        ·exact hS i hi)
       exact((((h1.kept hkd (by simp)).kept hk89 (by simp)).kept hk1 (fun i hi=>List.mem_cons_of_mem _ (List.mem_append_left _ hi))).kept hk11 (by simp)).mono (fun i hi=>List.mem_cons_of_mem _ (List.mem_append_right _ hi)))
      have HB12:=hide (hk11.blk hb10 (by simp;omega));have HS12:=hide hS11;have HK12:=hide ((((HKr.out.trans hkd (by simp)).trans hk89 (by simp)).trans hk1 (fun i hi=> .inr (by have:=(hOW i hi).1;have:=HWB.out;omega))).trans hk11 (by have:=HG.out;simp;omega))
      have hz12:Bz≤w11.heap.size:=by have:=hk11.size;omega
      clear hkd hgp2 hgp hgl hk89 hz9 hOW hlb hP9 hVg hk11 hS11 hb10 hs10 hown1 hk1 hat1 hS10 y4 y5 harr hkp c4w c4 hHeld hsz8;go_wp2;go_roundw
      case rel=>exact⟨j+1,.slice A3 (j+1) c3,_,by omega,by go_num,HS12,HO11,HP11,HI12,HB12,HK12,hz12⟩
      case measure=>simp [intOf];omega
     ·go_simp;refine hK _ _ trivial ?_;clear hK K
      try simp only[Act.put,pA,pB,pC]
      refine hO 1 (some 71) rfl fun K hK=> ?_;go_simp;refine hK.out _ _ (by trivial) (fun hHeld=>tS ?_);clear hK K;refine hO 10 (some 80) rfl fun K hK=> ?_;refine wp_append_vals (o:=⟨some 80,_,_,_,_,_⟩) (.tmp 71) (.tmp 79) 97 rfl Bz 41 (.slice none 0 0) 1 24 Tryz.underlying97 slice_info rfl (by omega) (.slice A2 j cc) j vs (by go_simp) (owns_kept (owns_kept HOr.out (hkp.mono (S':=[]) (by simp)|>fun h=>((Kept.refl [] wr).drewN 1).trans h (by simp)) (by simp)) ((Kept.refl [] w8).alloc _) (by simp)) [] _ 1 1 [.slice (some ⟨gp,0,none⟩) 64 64] (by go_simp) rfl (vals_slice _ _ _) (oneCell_slice _ _ _) (by simp only[maxLen];omega) (by omega) (by have:=hkp.size;simp at this ⊢;omega) ?_;intro v1 w10 hown1 hk1 hat1;have hS10:=hk1.blk ((hkp.blk (HSr.out.drewN 1) (by simp)).alloc (.cells #[.slice (some ⟨gp,0,none⟩) 64 64] 41)) (fun hm=>by have:=(HOW.out s hm).1;omega);have y4:=hS10.cell 4;have y5:=hS10.frozen 4;obtain⟨A3,c3,rfl,_⟩:=base.own_slice hown1;refine hK.out _ _ (by trivial) (fun hHeld=>tS ?_);clear hK K;refine tK 11 81 rfl ?_;refine hO 12 none rfl fun K hK=> ?_;go_simp;refine hK.out _ _ (by trivial) (fun hHeld=>tS ?_);clear hK K;refine wpAnyH_done (by kernel_rfl) ?_ _;refine NoPanic.normal ?_;clear c4x;have hkd:Kept [] wr w8:=((Kept.refl [] wr).drewN 1).trans hkp (by simp);have hsz8:=hkd.size;have hgp2:wr.heap.size≤gp:=hgp;have hgl:=harr.lt;have hk89:Kept [] w8 (w8.alloc (.cells #[.slice (some ⟨gp,0,none⟩) 64 64] 41)):=(Kept.refl [] w8).alloc _
      have hz9:(w8.alloc (.cells #[.slice (some ⟨gp,0,none⟩) 64 64] 41)).heap.size=w8.heap.size+1:=by simp
      generalize w8.alloc (.cells #[.slice (some ⟨gp,0,none⟩) 64 64] 41)=w9 at hk1 hat1 hk89 hz9;have hOW:=HOW.out;generalize (Value.slice A2 j cc).ownBlock=ob at hk1 hat1 hOW HPr
      have hlb:((bs.drop (64*(j+1))).take 64).length=64:=by have:=HL.out;have:=HLEN2.out;rw[List.length_take,List.length_drop];omega
      have hP9:PartsIn w9 (w9.heap.size::g::s::(ob.toList++Q)) vs (blocksOf bs j):=((HPr.out.kept hkd (by simp)).away (fun i hi=>by
       rcases List.mem_cons.1 hi with rfl|hi
       ·exact .inr (by omega)
       ·exact .inl hi)).kept hk89 (by simp)
      have hVg:Vals w9 (w9.heap.size::g::s::(ob.toList++Q)) (some ⟨gp,0,none⟩) (((bs.drop (64*(j+1))).take 64).map B):=(harr.kept hk89 (by simp)).vals (fun hm=>by
       rcases List.mem_cons.1 hm with hm|hm
       ·omega
       rcases List.mem_cons.1 hm with hm|hm
       ·omega
       rcases List.mem_cons.1 hm with hm|hm
       ·omega
       rcases List.mem_append.1 hm with hm|hm
       ·have:=(hOW gp hm).2;omega
       ·have h1:=HQQ.out gp hm;have h2:=HKr.out.size;omega)
      have hk11:=(Kept.refl [s] w10).set_ (b:=s) (.inl (by simp)) 4 (.slice A3 (j+1) c3);have hS11:=hS10.set_ 4 (.slice A3 (j+1) c3);have hb10:=hk1.blk (hk89.blk (hkd.blk HBr.out (by simp)) (by simp)) (fun hm=>by have:=(hOW g hm).1;omega);have hs10:=hk1.size;generalize w10.setCell ⟨s,4,none⟩ (.slice A3 (j+1) c3)=w11 at hk11 hS11 ⊢
      have HP11:Hid (PartsIn w11 (g::s::((Value.slice A3 (j+1) c3).ownBlock.toList++Q)) (vs++[.slice (some ⟨gp,0,none⟩) 64 64]) (blocksOf bs (j+1))):=hide (by
       rw[blocksOf_succ];refine(((hP9.snoc (some ⟨gp,0,none⟩) 64 64 _ hlb (by omega) hVg).kept hk1 (fun i hi=>by simp only[List.mem_cons];exact .inr (.inr (.inr (List.mem_append_left _ hi))))).kept hk11 (by simp)).less (fun i hi=> ?_)
       rcases List.mem_cons.1 hi with rfl|hi
       ·simp
       rcases List.mem_cons.1 hi with rfl|hi
       ·simp
       rcases(List.mem_append.1 hi).symm with hi|hi
       ·simp only[List.mem_cons];exact .inr (.inr (.inr (List.mem_append_right _ hi)))
       rcases hat1 with h|h
       ·rw[h]at hi;simp only[List.mem_cons];exact .inr (.inr (.inr (List.mem_append_left _ hi)))
       ·rw[h]at hi;simp at hi
        simp [hi])
      have HO11:=hide (owns_kept hown1 hk11 (by simp;omega))
      have HI12:Hid (∀ S:List Nat,(∀ i∈S,i=g∨i=s∨i∈Q∨Bz≤i)→Items w11 S L its):=hide (fun S hS=>by
       have h1:Vals wr (s::(ob.toList++S)) L (valsOf its):=HIr.out _ (fun i hi=>by
        rcases List.mem_cons.1 hi with rfl|hi
        ·exact .inr (.inl rfl)
        rcases List.mem_append.1 hi with hi|hi
        ·exact .inr (.inr (.inr (hOW i hi).1))
        ·exact hS i hi)
       exact((((h1.kept hkd (by simp)).kept hk89 (by simp)).kept hk1 (fun i hi=>List.mem_cons_of_mem _ (List.mem_append_left _ hi))).kept hk11 (by simp)).mono (fun i hi=>List.mem_cons_of_mem _ (List.mem_append_right _ hi)))
      have HB12:=hide (hk11.blk hb10 (by simp;omega));have HS12:=hide hS11;have HK12:=hide ((((HKr.out.trans hkd (by simp)).trans hk89 (by simp)).trans hk1 (fun i hi=> .inr (by have:=(hOW i hi).1;have:=HWB.out;omega))).trans hk11 (by have:=HG.out;simp;omega))
      have hz12:Bz≤w11.heap.size:=by have:=hk11.size;omega
      clear hkd hgp2 hgp hgl hk89 hz9 hOW hlb hP9 hVg hk11 hS11 hb10 hs10 hown1 hk1 hat1 hS10 y4 y5 harr hkp c4w c4 hHeld hsz8;go_wp2;go_roundw
      case rel=>exact⟨j+1,.slice A3 (j+1) c3,_,by omega,by go_num,HS12,HO11,HP11,HI12,HB12,HK12,hz12⟩
      case measure=>simp [intOf];omega
    -- END
   ·obtain rfl:j=kk:=by omega
    have hle:¬((j:Int)+1≤j):=by omega
    have hpv:=HPr.out.of.parts (hvA [] (by simp))
    have HX:Hid (∀ S:List Nat,(∀ i∈S,i=g∨i∈Q)→RcIn wr S L m A2 j (readOf bs)):=hide (fun S hS=>by
     rw[HRD.out]
     exact⟨HM.out.symm,blocksOf_len _ _,HIr.out S (fun i hi=>(hS i hi).elim .inl (fun h=> .inr (.inr (.inl h)))),vs,HPr.out.less (fun i hi=>by rcases hS i hi with h|h<;>simp [h]),hvA S (fun i hi=> .inl (by
      rcases hS i hi with h|h
      ·rw[h];omega
      ·have h1:=HQQ.out i h;have h2:=HWB.out;omega))⟩)
    obtain⟨Y,hY⟩:∃ Y:Rc,readOf bs=Y:=⟨_,rfl⟩
    have e1:Y.m=x1:=by rw[←hY,HRD.out]
    have e2:Y.l=x2:=by rw[←hY,HRD.out]
    have e3:Y.p=x3:=by rw[←hY,HRD.out]
    have HY:=hide hY;rw[hY]at HX HD;subst e1 e2 e3;obtain⟨c0,c1,c2,c3,c4⟩:=cell5 HSr.out;clear hpv hvA hown hcc hY;go_wp2_with fail;refine(rbytes_any Y L A2 m lc j cc _ (HX.out [] (by simp)).at_).mono ?_;rintro e w12 ⟨P12,n12,p12,rfl,hn12,hv12,hk⟩;have HX12:=hide ((HX.out (g::Q) (fun i hi=>List.mem_cons.1 hi)).kept hk (by simp));have HV12:=hide hv12;have HN12:=hide hn12;have HB12:=hide (hk.blk HBr.out (by simp));have HS12:=hide (hk.blk HSr.out (by simp));have HK12:=hide (HKr.out.trans hk (by simp));have HVB:=hide (HV.out.kept HK12.out (by simp));clear hk hn12 hv12 c0 c1 c2 c3 c4 HBr HSr HKr HX;have f0:=HB12.out.frozen 0;have f1:=HB12.out.frozen 1;have f2:=HB12.out.frozen 2;have f3:=HB12.out.frozen 3;have f4:=HB12.out.frozen 4;obtain⟨d0,d1,d2,d3,d4⟩:=cell5 HB12.out
    by_cases hmy2:Y.may=true
    ·have e1:record.encode Y=(Y.bytes,(Y.sum:Int),0):=if_pos hmy2;rw[e1]at HN12 HV12 ⊢
     have hbl:Y.bytes.length≤140737488355328:=by
      rw[Rc.bytes_len (Y.may_iff.1 hmy2)]
      have:=Rc.ok.few (Y.may_iff.1 hmy2)
      omega
     have HBL:Hid (n12≤140737488355328):=hide (by rw[HN12.out];exact hbl)
     by_cases hq2:Y.bytes=bs
     ·have HD2:Hid (decode bs=(Y,(Y.sum:Int),0)):=hide (by rw[HD.out,if_pos ⟨hmy2,hq2⟩]);clear e1 hbl;go_wp2_with fail;refine(equal_len P12 A n12 n p12 c Y.bytes bs _ HN12.out.symm HL.out HV12.out HVB.out HBL.out).mono ?_;rintro e w13 ⟨rfl,hk⟩;rw[decide_eq_true hq2];have HB13:=hide (hk.blk HB12.out (by simp));have HS13:=hide (hk.blk HS12.out (by simp));have HX13:=hide (HX12.out.kept hk (by simp));have HK13:=hide (HK12.out.trans hk (by simp));clear hk f0 f1 f2 f3 f4 d0 d1 d2 d3 d4;have f0:=HB13.out.frozen 0;have f1:=HB13.out.frozen 1;have f2:=HB13.out.frozen 2;have f3:=HB13.out.frozen 3;have f4:=HB13.out.frozen 4;obtain⟨d0,d1,d2,d3,d4⟩:=cell5 HB13.out;obtain⟨c0,c1,c2,c3,c4⟩:=cell5 HS13.out;have HBW:=hide (put5 (.int .i64 Y.m) (.int .i64 Y.l) (.int .i64 Y.p) (.slice L m lc) (.slice A2 j cc) HB13.out);have HKW:=hide (put5_kept (g:=g) (S:=[]) (.int .i64 Y.m) (.int .i64 Y.l) (.int .i64 Y.p) (.slice L m lc) (.slice A2 j cc) HK13.out (.inr HG.out.1));have HRW:=hide (HX13.out.kept (put5_kept (g:=g) (S:=[g]) (.int .i64 Y.m) (.int .i64 Y.l) (.int .i64 Y.p) (.slice L m lc) (.slice A2 j cc) (Kept.refl [g] w13) (.inl (by simp))) (by simp));go_wp2;generalize (((((w13.setCell ⟨g,0,none⟩ (.int .i64 Y.m)).setCell ⟨g,1,none⟩ (.int .i64 Y.l)).setCell ⟨g,2,none⟩ (.int .i64 Y.p)).setCell ⟨g,3,none⟩ (.slice L m lc)).setCell ⟨g,4,none⟩ (.slice A2 j cc))=W at HBW HKW HRW ⊢;obtain⟨t0,t1,t2,t3,t4⟩:=cell5 HBW.out;refine bodyPost_ret (v:= .tuple #[.agg #[.int .i64 Y.m,.int .i64 Y.l,.int .i64 Y.p,.slice L m lc,.slice A2 j cc],.int .i64 Y.sum,.int .i64 0]) ?_ rfl ⟨L,m,lc,A2,j,cc,by rw[HD2.out],by rw[HD2.out];exact HRW.out.less (fun x hx=>by simp [hx]),HKW.out⟩
      simp [results,Tryz.results147,go_sem,t0,t1,t2,t3,t4]
     ·have HD2:Hid (decode bs=(Rc.zero,0,2)):=hide (by rw[HD.out,if_neg (fun h=>hq2 h.2)]);clear e1 hbl;go_wp2_with fail;refine(equal_len P12 A n12 n p12 c Y.bytes bs _ HN12.out.symm HL.out HV12.out HVB.out HBL.out).mono ?_;rintro e w13 ⟨rfl,hk⟩;rw[decide_eq_false hq2];have HB13:=hide (hk.blk HB12.out (by simp));have HK13:=hide (HK12.out.trans hk (by simp));clear hk f0 f1 f2 f3 f4 d0 d1 d2 d3 d4;have f0:=HB13.out.frozen 0;have f1:=HB13.out.frozen 1;have f2:=HB13.out.frozen 2;have f3:=HB13.out.frozen 3;have f4:=HB13.out.frozen 4;obtain⟨d0,d1,d2,d3,d4⟩:=cell5 HB13.out;have HBW:=hide (put5 (.int .i64 0) (.int .i64 0) (.int .i64 0) (.slice none 0 0) (.slice none 0 0) HB13.out);have HKW:=hide (put5_kept (g:=g) (S:=[]) (.int .i64 0) (.int .i64 0) (.int .i64 0) (.slice none 0 0) (.slice none 0 0) HK13.out (.inr HG.out.1));go_wp2;generalize (((((w13.setCell ⟨g,0,none⟩ (.int .i64 0)).setCell ⟨g,1,none⟩ (.int .i64 0)).setCell ⟨g,2,none⟩ (.int .i64 0)).setCell ⟨g,3,none⟩ (.slice none 0 0)).setCell ⟨g,4,none⟩ (.slice none 0 0))=W at HBW HKW ⊢;obtain⟨t0,t1,t2,t3,t4⟩:=cell5 HBW.out;refine bodyPost_ret (v:= .tuple #[.agg #[.int .i64 0,.int .i64 0,.int .i64 0,.slice none 0 0,.slice none 0 0],.int .i64 0,.int .i64 2]) ?_ rfl ⟨none,0,0,none,0,0,by rw[HD2.out];rfl,by rw[HD2.out];exact RcIn.zero _ _ _ _,HKW.out⟩
      simp [results,Tryz.results147,go_sem,t0,t1,t2,t3,t4]
    ·have e1:record.encode Y=([],0,1):=if_neg hmy2;rw[e1]at HN12 HV12 ⊢;have HD2:Hid (decode bs=(Rc.zero,0,2)):=hide (by rw[HD.out,if_neg (fun h=>hmy2 h.1)]);clear e1;have HBW:=hide (put5 (.int .i64 0) (.int .i64 0) (.int .i64 0) (.slice none 0 0) (.slice none 0 0) HB12.out);have HKW:=hide (put5_kept (g:=g) (S:=[]) (.int .i64 0) (.int .i64 0) (.int .i64 0) (.slice none 0 0) (.slice none 0 0) HK12.out (.inr HG.out.1));go_wp2;generalize (((((w12.setCell ⟨g,0,none⟩ (.int .i64 0)).setCell ⟨g,1,none⟩ (.int .i64 0)).setCell ⟨g,2,none⟩ (.int .i64 0)).setCell ⟨g,3,none⟩ (.slice none 0 0)).setCell ⟨g,4,none⟩ (.slice none 0 0))=W at HBW HKW ⊢;obtain⟨t0,t1,t2,t3,t4⟩:=cell5 HBW.out;refine bodyPost_ret (v:= .tuple #[.agg #[.int .i64 0,.int .i64 0,.int .i64 0,.slice none 0 0,.slice none 0 0],.int .i64 0,.int .i64 2]) ?_ rfl ⟨none,0,0,none,0,0,by rw[HD2.out];rfl,by rw[HD2.out];exact RcIn.zero _ _ _ _,HKW.out⟩
     simp [results,Tryz.results147,go_sem,t0,t1,t2,t3,t4]
 ·rw[if_neg hmy]at hm hit ⊢;have HDB:=hide (HBAD.out hmy);have f0:=HB10.out.frozen 0;have f1:=HB10.out.frozen 1;have f2:=HB10.out.frozen 2;have f3:=HB10.out.frozen 3;have f4:=HB10.out.frozen 4;obtain⟨d0,d1,d2,d3,d4⟩:=cell5 HB10.out;have HBW:=hide (put5 (.int .i64 0) (.int .i64 0) (.int .i64 0) (.slice none 0 0) (.slice none 0 0) HB10.out);have HKW:=hide (put5_kept (g:=g) (S:=[]) (.int .i64 0) (.int .i64 0) (.int .i64 0) (.slice none 0 0) (.slice none 0 0) HK10.out (.inr HG.out.1));clear hit hm hk hmy;go_wp2;generalize (((((w10.setCell ⟨g,0,none⟩ (.int .i64 0)).setCell ⟨g,1,none⟩ (.int .i64 0)).setCell ⟨g,2,none⟩ (.int .i64 0)).setCell ⟨g,3,none⟩ (.slice none 0 0)).setCell ⟨g,4,none⟩ (.slice none 0 0))=W at HBW HKW ⊢;obtain⟨t0,t1,t2,t3,t4⟩:=cell5 HBW.out;refine bodyPost_ret (v:= .tuple #[.agg #[.int .i64 0,.int .i64 0,.int .i64 0,.slice none 0 0,.slice none 0 0],.int .i64 0,.int .i64 2]) ?_ rfl ⟨none,0,0,none,0,0,by rw[HDB.out];rfl,by rw[HDB.out];exact RcIn.zero _ _ _ _,HKW.out⟩
  simp [results,Tryz.results147,go_sem,t0,t1,t2,t3,t4]

theorem rof_fars (Q:List Nat)(A:Option Addr)(n c:Nat)(bs:List UInt8)(w:World)(hQ:∀ x∈Q,x<w.heap.size)(hv:Vals w [] A (bs.map B))(hl:bs.length=n)(hnc:n≤c)(hn:n≤65536):
  Calls Tryz.prog 147 #[.slice A n c] w fun e w'=>∃ (L:Option Addr) (m lc:Nat) (P:Option Addr) (k pc:Nat),
   e= .returned (.tuple #[.agg #[.int .i64 (decode bs).1.m,.int .i64 (decode bs).1.l,.int .i64 (decode bs).1.p,.slice L m lc,.slice P k pc],.int .i64 (decode bs).2.1,.int .i64 (decode bs).2.2])∧RcIn w' Q L m P k (decode bs).1∧Kept [] w w':=by
 by_cases h1:64≤n
 ·by_cases h2:64*sizeOf (bs.take 64)=n
  ·exact rof_in Q A n c bs w hQ hv hl hnc h1 h2 hn
  ·rw[decode_size bs (.inr (by rw[hl];exact h2))]
   exact(rof_short A n c bs w hv hl hnc (.inr ⟨h1,h2⟩) hn).mono fun _ _ ⟨h,k⟩=>⟨none,0,0,none,0,0,h,RcIn.zero _ _ _ _,k⟩
 ·rw[decode_size bs (.inl (by omega))]
  exact(rof_short A n c bs w hv hl hnc (.inl (by omega)) hn).mono fun _ _ ⟨h,k⟩=>⟨none,0,0,none,0,0,h,RcIn.zero _ _ _ _,k⟩
end Go.Proofs.YtjkmahmoclobmaaGreat.record
