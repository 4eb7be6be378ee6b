import Derived.Test.YtjkmahmoclobmaaGreatYRecordCore
import Derived.Test.YtjkmahmoclobmaaGreatYCrcCore
import Derived.Test.YtjkmahmoclobmaaGreatYItemCore
import Derived.Test.YtjkmahmoclobmaaGreatYBytesEq
set_option maxRecDepth 100000
set_option maxHeartbeats 2000000
namespace Go.Proofs.YtjkmahmoclobmaaGreat.record
open Go.RowKit mem base row rowBack fill crc crcMath super item
theorem take_le (R:Row)(n:Nat):(R.take n).1.length≤n:=by
 unfold Row.take
 split
 ·exact Nat.le_trans (List.length_take_le _ _) (by rw[Int.toNat_natCast];exact Nat.le_refl _)
 ·exact Nat.zero_le _
theorem sm_le (bs:List UInt8):(sm bs).length≤64:=take_le ⟨bs,0⟩ 64
theorem raw_le (s:List UInt8):(raw s).length≤1785:=by
 have h:=cn_bd s;obtain⟨q,hq⟩:∃ q:Nat,cn s=q:=⟨(cn s).toNat,by omega⟩;unfold raw;rw[hq,show(7*(q:Int))=((7*q:Nat):Int)by omega];exact Nat.le_trans (take_le _ _) (by omega)
theorem taken_le (R:Row)(i:Nat):(taken R i).length≤64:=take_le _ 64

theorem rdheld {w0 W W':World}{p g q:Nat}{v:Value}(hgp:g≠p)(hgq:g≠q)(h:Kept [p,q] w0 W∧W.cell? ⟨g,4,none⟩=some v)(hk:Kept [p,q] W W'):Kept [p,q] w0 W'∧W'.cell? ⟨g,4,none⟩=some v:=
 ⟨h.1.trans hk (fun i hi=> .inl hi),hk.cell h.2 (by simp;exact⟨hgp,hgq⟩)⟩

theorem read_fars (Q:List Nat)(A:Option Addr)(n c:Nat)(bs:List UInt8)(w:World)(hQ:∀ x∈Q,x<w.heap.size)(hv:Vals w [] A (bs.map B))(hl:bs.length=n)(hA:A=none→c=0)(hn:n≤65536):
  Calls Tryz.prog 235 #[.slice A n c] w fun e w'=>∃ (L:Option Addr) (m lc:Nat) (P:Option Addr) (k pc:Nat),
   e= .returned (.agg #[.int .i64 (readC bs).m,.int .i64 (readC bs).l,.int .i64 (readC bs).p,.slice L m lc,.slice P k pc])∧RcIn w' Q L m P k (readC bs)∧Kept [] w w':=by
 have HV:=hide hv;have HQ:=hide hQ;clear hQ;have HA:=hide hA;have HL:=hide hl;clear hv hA hl;have hk0:=(Kept.refl [] w).alloc (.cells #[.int .i64 0,.int .i64 0,.int .i64 0,.slice none 0 0,.slice none 0 0] 111);have hb0:=Blk.new w 111 #[.int .i64 0,.int .i64 0,.int .i64 0,.slice none 0 0,.slice none 0 0];have hlt:=hb0.lt;obtain⟨g,hg⟩:∃ g,w.heap.size=g:=⟨_,rfl⟩;have HG:=hide (Nat.le_of_eq hg);rw[hg]at hb0 hlt;have HB0:=hide hb0;have HK0:=hide hk0;clear hb0 hk0;go_enter Tryz.func235,Tryz.ntmps235;go_wp2_with fail;rw[←HL.out];refine(from_at A c bs _ (HV.out.kept HK0.out (by simp)) HA.out (by rw[HL.out];exact hn)).mono ?_;rintro e w1 ⟨p,b,cap,A1,rfl,hp,hb,hb1,hr,hk⟩;have HR1:=hide hr;have HK1:=hide (HK0.out.trans hk (by simp));have HB1:=hide (hk.blk HB0.out (by simp));have hp1:=hr.lt
 have hgp:g<p:=by omega
 have hgb:g<b:=by omega
 clear hr hk hp hb HB0 HK0;go_wp2_with fail;refine(take_at p b cap A1 _ 64 _ HR1.out).mono ?_;rintro e w2 ⟨A2,c2,rfl,hnb,hr,hk⟩;have HR2:Hid (RowAt w2 p b cap A1 (a1 bs)):=hide hr;have HV2:Hid (Vals w2 [] A2 ((sm bs).map B)):=hide (hnb.vals (by simp));have HA2:Hid (A2=none→c2=0):=hide hnb.nil0;have HK2:=hide (HK1.out.trans hk (by simp;omega));have HB2:=hide (hk.blk HB1.out (by simp;omega));have hs2:=hk.size;clear hr hk hnb HR1 HK1 HB1;obtain⟨s,hs⟩:∃ s,sm bs=s:=⟨_,rfl⟩;have HS:=hide hs;have hsl:=sm_le bs;rw[hs]at HV2 hsl;rw[show(Row.take ⟨bs,0⟩ 64).1=s from hs];clear hs;go_wp2_with fail;refine(from_at A2 c2 s _ HV2.out HA2.out (by omega)).mono ?_;rintro e w3 ⟨p2,b2,cap2,A3,rfl,hp2,hb2,hb3,hr,hk⟩;have hp2w:=HR2.out.lt;have HL3:=hide hr;have HR3:=hide (HR2.out.kept hk (by simp) (by simp));have HK3:=hide (HK2.out.trans hk (by simp));have HB3:=hide (hk.blk HB2.out (by simp))
 have hpp2:p<p2:=by omega
 have hbp2:b<p2:=by omega
 have hpb2:p<b2:=by omega
 clear hr hk HR2 HK2 HB2 HV2 HA2 hp2 hb2;go_wp2_with fail;refine(readLead_any p2 b2 cap2 A3 s _ HL3.out hb3).mono ?_;rintro e w4 ⟨rfl,hr,hk⟩;obtain⟨x1,hx1⟩:∃ x,cm s=x:=⟨_,rfl⟩;obtain⟨x2,hx2⟩:∃ x,cl s=x:=⟨_,rfl⟩;obtain⟨x3,hx3⟩:∃ x,cp s=x:=⟨_,rfl⟩;obtain⟨nn,hnn⟩:∃ nn:Nat,cn s=nn:=⟨(cn s).toNat,by have:=cn_bd s;omega⟩;obtain⟨k,hkk⟩:∃ k:Nat,ck s=k:=⟨(ck s).toNat,by have:=ck_bd s;omega⟩
 have hnn2:nn<256:=by have:=cn_bd s;omega
 have hkk2:k<256:=by have:=ck_bd s;omega
 obtain⟨r,hraw⟩:∃ r,raw s=r:=⟨_,rfl⟩
 have hrl:r.length≤1785:=by rw[←hraw];exact raw_le s
 have hrw:(Row.take (q5 s) (7*(nn:Int))).1=r:=by rw[←hnn];exact hraw
 obtain⟨its,hits⟩:∃ its,(item.decode r).1=its:=⟨_,rfl⟩
 have hrc:readC bs=⟨x1,x2,x3,its,takes (a1 bs) k⟩:=by
  unfold readC;rw[HS.out,hx1,hx2,hx3,hraw,hits,hkk,Int.toNat_natCast]
 have HRC:=hide hrc;rw[hx1,hx2,hx3,hnn,hkk];have hb5:=Blk.new w4 111 #[.int .i64 x1,.int .i64 x2,.int .i64 x3,.slice none 0 0,.slice none 0 0];have hk5:=(Kept.refl [] w4).alloc (.cells #[.int .i64 x1,.int .i64 x2,.int .i64 x3,.slice none 0 0,.slice none 0 0] 111);have hp4:=hr.lt;have hb4:=(hk.size:w3.heap.size≤w4.heap.size);obtain⟨g7,hg7⟩:∃ g7,w4.heap.size=g7:=⟨_,rfl⟩;have HG7:=hide hb5;have HL5:=hide (hr.kept hk5 (by simp) (by simp));have HR5:=hide ((HR3.out.kept hk (by simp;omega) (by simp;omega)).kept hk5 (by simp) (by simp));have HK5:=hide ((HK3.out.trans hk (by have:=HK3.out.size;have:=HG.out;simp;omega)).trans hk5 (by simp));have HB5:=hide (hk5.blk (hk.blk HB3.out (by simp;omega)) (by simp))
 have hg7p:p<g7:=by omega
 have hg7p2:p2<g7:=by omega
 have hg7b:b<g7:=by omega
 have hg7b2:b2<g7:=by omega
 have hgg7:g<g7:=by omega
 have hwg7:w.heap.size≤g7:=by omega
 rw[hg7]at HG7;have HNN:=hide hnn;have HHITS:=hide hits;have HRW:=hide hrw;clear hr hk HR3 HK3 HB3 HL3 hb5 hk5 hx1 hx2 hx3 hnn hkk hraw hits hrw hrc;go_wp2_with fail;refine(take_at p2 b2 cap2 A3 (q5 s) (7*(nn:Int)) _ HL5.out).mono ?_;rintro e w6 ⟨A6,c6,rfl,hnb,hr,hk⟩;rw[HRW.out]at hnb ⊢;have HV6:Hid (Vals w6 [] A6 (r.map B)):=hide (hnb.vals (by simp));have HA6:Hid (A6=none→c6=0):=hide hnb.nil0;have HG6:=hide (hk.blk HG7.out (by simp;omega));have HR6:=hide (HR5.out.kept hk (by simp;omega) (by simp;omega));have HK6:=hide (HK5.out.trans hk (by have:=HG.out;simp;omega));have HB6:=hide (hk.blk HB5.out (by simp;omega));clear hr hk hnb HG7 HR5 HK5 HB5 HL5;go_wp2_with fail;refine(decode_far A6 r.length c6 r _ HV6.out rfl HA6.out (by omega)).mono ?_;rintro e w7 ⟨L,m,lc,rfl,hm,hml,hL0,hit,hk⟩;rw[HHITS.out]at hm hit;have h6g:=HG6.out.lt;have h6p:=HR6.out.lt;have HI7:=hide (hit (p::g7::g::Q) (by have:=HB6.out.lt;exact List.forall_mem_cons.2 ⟨by omega,List.forall_mem_cons.2 ⟨by omega,List.forall_mem_cons.2 ⟨by omega,fun x hx=>by have:=HQ.out x hx;omega⟩⟩⟩));have HG7:=hide (hk.blk HG6.out (by simp));have HR7:=hide (HR6.out.kept hk (by simp) (by simp));have HK7:=hide (HK6.out.trans hk (by simp));have HB7:=hide (hk.blk HB6.out (by simp));have HM:=hide hm;have h7g:=HG7.out.lt;clear hk hm hit hml hL0 HG6 HR6 HK6 HB6 HV6 HA6;have d3:=HG7.out.cell 3;have e3:=HG7.out.frozen 3;have HG8:Hid (Blk (w7.setCell ⟨g7,3,none⟩ (.slice L m lc)) g7 111 #[.int .i64 x1,.int .i64 x2,.int .i64 x3,.slice L m lc,.slice none 0 0]):=hide (HG7.out.set_ 3 _)
 have hk8:=(Kept.refl [g7] w7).set_ (b:=g7) (.inl (by simp)) 3 (.slice L m lc)
 have hmk:∀ w:World,(Instr.makeSlice 97 (.int .i64 (k:Int)) (.int .i64 (k:Int))).run Tryz.prog w= .ok (.slice (some ⟨w.heap.size,0,none⟩) k k) (w.alloc (.cells (madeCells #[.slice none 0 0] k) 41)):=
  run_make_row' (P:=Tryz.prog) 97 41 (.slice none 0 0) 24 (by kernel_rfl) (by kernel_rfl) rfl .i64 .i64 k (by omega) (by omega)
 obtain⟨gb,hgb7⟩:∃ gb,w7.heap.size=gb:=⟨_,rfl⟩;obtain⟨w9,hw9⟩:∃ w9,(w7.setCell ⟨g7,3,none⟩ (.slice L m lc)).alloc (.cells (madeCells #[.slice none 0 0] k) 41)=w9:=⟨_,rfl⟩
 have hk9:Kept [g7] w7 w9:=by rw[←hw9];exact hk8.alloc _
 have hb9:Blk w9 gb 41 (List.replicate k (Value.slice none 0 0)).toArray:=by
  rw[←hw9,←madeSlices]
  have:=Blk.new (w7.setCell ⟨g7,3,none⟩ (.slice L m lc)) 41 (madeCells #[.slice none 0 0] k)
  simpa [hgb7]using this
 have hg9:Blk w9 g7 111 #[.int .i64 x1,.int .i64 x2,.int .i64 x3,.slice L m lc,.slice none 0 0]:=by rw[←hw9];exact HG8.out.alloc _
 have d4:=hg9.cell 4;have e4:=hg9.frozen 4
 have hggb:g7<gb:=by omega
 have HG10:Hid (Blk (w9.setCell ⟨g7,4,none⟩ (.slice (some ⟨gb,0,none⟩) k k)) g7 111 #[.int .i64 x1,.int .i64 x2,.int .i64 x3,.slice L m lc,.slice (some ⟨gb,0,none⟩) k k]):=hide (hg9.set_ 4 _);have hk10:=hk9.set_ (b:=g7) (.inl (by simp)) 4 (.slice (some ⟨gb,0,none⟩) k k);have HP10:Hid (Blk (w9.setCell ⟨g7,4,none⟩ (.slice (some ⟨gb,0,none⟩) k k)) gb 41 (([]:List Value)++List.replicate (k-0) (Value.slice none 0 0)).toArray):=hide (hb9.far_ (by omega) 4 _);have HI10:=hide (Items.kept (Vals.away (S':=(p::g7::gb::g::Q)) HI7.out (List.forall_mem_cons.2 ⟨.inl (by simp),List.forall_mem_cons.2 ⟨.inl (by simp),List.forall_mem_cons.2 ⟨.inr (by omega),List.forall_mem_cons.2 ⟨.inl (by simp),fun x hx=> .inl (by simp [hx])⟩⟩⟩⟩)) hk10 (by simp));have HR10:=hide (HR7.out.kept hk10 (by simp;omega) (by simp;omega));have HB10:=hide (hk10.blk HB7.out (by simp;omega));have HK10:=hide (HK7.out.trans hk10 (by simp;omega));have HGB2:Hid (w.heap.size≤gb):=hide (by have:=HK7.out.size;omega);clear hk8 hk9 hb9 hg9 hk10 HG8 HG7 HR7 HK7 HB7 HI7;go_wp2
 go_loopw [47] (fun i wr=>∃ j:Nat,j≤k∧i= .int .i64 j∧Hid (RowAt wr p b cap A1 (after (a1 bs) j))∧Hid (Blk wr g7 111 #[.int .i64 x1,.int .i64 x2,.int .i64 x3,.slice L m lc,.slice (some ⟨gb,0,none⟩) k k])∧Hid (Blk wr g 111 #[.int .i64 0,.int .i64 0,.int .i64 0,.slice none 0 0,.slice none 0 0])∧Hid (Items wr (p::g7::gb::g::Q) L its)∧Hid (∃ vs:List Value,PartsIn wr (p::g7::gb::g::Q) vs (takes (a1 bs) j)∧vs.length=j∧Blk wr gb 41 (vs++List.replicate (k-j) (Value.slice none 0 0)).toArray)∧Hid (Kept [] w wr)) (fun i wr=>k-(intOf i).toNat)
 case atStart=>exact⟨0,by omega,rfl,HR10,HG10,HB10,HI10,hide ⟨[],PartsIn.nil _ _,rfl,HP10.out⟩,HK10⟩
 case round=>
  obtain⟨j,hj,rfl,HRr,HGr,HBr,HIr,HPr,HKr⟩:=hrel
  by_cases hlt2:j<k
  ·obtain⟨vs,hps,hvl,hgb⟩:=HPr.out;have HPS:=hide hps;have HVL:=hide hvl;have HGB:=hide hgb
   have hz:(vs++List.replicate (k-j) (Value.slice none 0 0)).toArray[j]? = some (.slice none 0 0):=by
    rw[List.getElem?_toArray,List.getElem?_append_right (by omega),hvl,Nat.sub_self,List.getElem?_replicate,if_pos (by omega)]
   have HZ:=hide hz;have hgbl:=hgb.lt;have htl:=taken_le (a1 bs) j;obtain⟨tk,htk⟩:∃ tk,taken (a1 bs) j=tk:=⟨_,rfl⟩;rw[htk]at htl;have HTK:=hide htk;have HST:=hide (show Kept [p,gb] wr wr∧wr.cell? ⟨g7,4,none⟩=some (.slice (some ⟨gb,0,none⟩) k k)from⟨Kept.refl _ _,HGr.out.cell 4⟩)
   have hne1:g7≠p:=by omega
   have hne2:g7≠gb:=by omega
   clear hps hvl hgb hz htk HPr;go_wp2
   -- REGION read
   refine wp_region_noPanic ?_;refine wp_region_held_drew (S:=fun W=>Kept [p,gb] wr W∧W.cell? ⟨g7,4,none⟩=some (.slice (some ⟨gb,0,none⟩) k k)) (by kernel_rfl) (by exact⟨HST.out.1.drew,HST.out.2⟩) (fun hHeld=> ?_);refine tK 0 51 rfl ?_;refine tK 1 52 rfl ?_;refine tK 2 53 rfl ?_;refine tK 3 54 rfl ?_;refine hO 4 (some 55) rfl fun K hK=> ?_;go_simp;refine(take_at p b cap A1 (after (a1 bs) j) 64 _ (HRr.out.drewN 1)).mono ?_;rintro e w11 ⟨A11,c11,rfl,hnb11,hr11,hk11⟩;rw[show(Row.take (after (a1 bs) j) 64).1=tk from HTK.out];have hgb11:=hk11.blk (HGB.out.drewN 1) (by simp;omega);refine hK.out _ _ (by exact rdheld hne1 hne2 hHeld (hk11.mono (by simp))) (fun hHeld=>tS ?_);clear hK K;refine tK 5 50 rfl ?_;refine tK 6 56 rfl ?_;refine tK 7 57 rfl ?_;refine tK 8 58 rfl ?_;refine hO 9 none rfl fun K hK=> ?_;have z11:=hgb11.cell j;rw[HZ.out]at z11;have y11:=hgb11.frozen j;go_simp;have hks:Kept [p,gb] w11 (w11.setCell ⟨gb,j,none⟩ (.slice A11 tk.length c11)):=(Kept.refl [p,gb] w11).set_ (b:=gb) (.inl (by simp)) j _;have hkg:Kept [gb] w11 (w11.setCell ⟨gb,j,none⟩ (.slice A11 tk.length c11)):=(Kept.refl [gb] w11).set_ (b:=gb) (.inl (by simp)) j _;have hbs:=hgb11.set_ j (.slice A11 tk.length c11);generalize w11.setCell ⟨gb,j,none⟩ (.slice A11 tk.length c11)=w12 at hks hkg hbs ⊢;refine hK.out _ _ (by exact rdheld hne1 hne2 hHeld hks) (fun hHeld=>tS ?_);clear hK K;refine wpAnyH_done (by kernel_rfl) ?_ _;refine NoPanic.normal ?_
   -- END
   have HR12:Hid (RowAt w12 p b cap A1 (after (a1 bs) (j+1))):=hide (hr11.kept hkg (by simp;omega) (by simp;omega));have HG12:=hide (hHeld.1.blk HGr.out (by simp;exact⟨hne1,hne2⟩));have HB12:=hide (hHeld.1.blk HBr.out (by simp;omega));have HI12:Hid (Items w12 (p::g7::gb::g::Q) L its):=hide (Items.kept HIr.out hHeld.1 (by simp))
   have hvn:Vals w12 (p::g7::gb::g::Q) A11 (tk.map B):=by
    have h1:=hnb11.vals (S:=(p::g7::gb::g::Q)) (by have:=HRr.out.lt;have:=HGr.out.lt;have:=HGB.out.lt;have:=HBr.out.lt;have h9:=HKr.out.size;simp;exact⟨by omega,by omega,by omega,by omega,fun x hx=>by have:=HQ.out x hx;omega⟩);rw[show(Row.take (after (a1 bs) j) 64).1=tk from HTK.out]at h1;exact Vals.kept h1 hks (by simp)
   have HP12:Hid (∃ vs':List Value,PartsIn w12 (p::g7::gb::g::Q) vs' (takes (a1 bs) (j+1))∧vs'.length=j+1∧Blk w12 gb 41 (vs'++List.replicate (k-(j+1)) (Value.slice none 0 0)).toArray):=hide ⟨vs++[.slice A11 tk.length c11],by
    rw[takes_succ,HTK.out]
    exact(HPS.out.kept hHeld.1 (by simp)).snoc A11 tk.length c11 tk rfl (by omega) hvn,by rw[List.length_append,HVL.out];rfl,by
    have:=hbs
    rw[List.setIfInBounds_toArray,set_nil vs k j _ _ HVL.out hlt2]at this
    exact this⟩
   have HK12:=hide (HKr.out.trans hHeld.1 (by simp;omega));clear hr11 hks hkg hbs hnb11 hvn hHeld hgb11 hk11;go_wp2;go_roundw
   case rel=>exact⟨j+1,by omega,by go_num,HR12,HG12,HB12,HI12,HP12,HK12⟩
   case measure=>simp [intOf];omega
  ·obtain rfl:j=k:=by omega
   obtain⟨vs,hps,hvl,hgb⟩:=HPr.out;rw[Nat.sub_self,List.replicate_zero,List.append_nil]at hgb
   have hpb:Vals wr (g::Q) (some ⟨gb,0,none⟩) vs:=Vals.blk 0 hgb (fun hm=>by
    rcases List.mem_cons.1 hm with hm|hm
    ·omega
    ·have h1:=HQ.out _ hm;have h2:=HGB2.out;omega) (fun i v hv=>by rw[Nat.zero_add,List.getElem?_toArray];exact hv)
   clear hvl hgb HPr;obtain⟨c0,c1,c2,c3,c4⟩:=cell5 HGr.out;obtain⟨d0,d1,d2,d3,d4⟩:=cell5 HBr.out;have f0:=HBr.out.frozen 0;have f1:=HBr.out.frozen 1;have f2:=HBr.out.frozen 2;have f3:=HBr.out.frozen 3;have f4:=HBr.out.frozen 4;have HBW:=hide (put5 (.int .i64 x1) (.int .i64 x2) (.int .i64 x3) (.slice L m lc) (.slice (some ⟨gb,0,none⟩) j j) HBr.out);have HKW:=hide (put5_kept (g:=g) (S:=[]) (.int .i64 x1) (.int .i64 x2) (.int .i64 x3) (.slice L m lc) (.slice (some ⟨gb,0,none⟩) j j) HKr.out (.inr HG.out));have HKG:=hide (put5_kept (g:=g) (S:=[g]) (.int .i64 x1) (.int .i64 x2) (.int .i64 x3) (.slice L m lc) (.slice (some ⟨gb,0,none⟩) j j) (Kept.refl [g] wr) (.inl (by simp)));have HIF:=hide ((Items.kept HIr.out HKG.out (by simp):Vals _ _ _ _).mono (S':=Q) (fun x hx=>by simp [hx]));have HPF:Hid (∃ vs,PartsIn _ Q vs (takes (a1 bs) j)∧Vals _ Q (some ⟨gb,0,none⟩) vs):=hide ⟨vs,(hps.kept HKG.out (by simp)).less (fun x hx=>by simp [hx]),(hpb.kept HKG.out (by simp)).mono (fun x hx=>by simp [hx])⟩;clear hps hpb;go_wp2;generalize (((((wr.setCell ⟨g,0,none⟩ (.int .i64 x1)).setCell ⟨g,1,none⟩ (.int .i64 x2)).setCell ⟨g,2,none⟩ (.int .i64 x3)).setCell ⟨g,3,none⟩ (.slice L m lc)).setCell ⟨g,4,none⟩ (.slice (some ⟨gb,0,none⟩) j j))=W at HBW HKW HKG HIF HPF ⊢;obtain⟨t0,t1,t2,t3,t4⟩:=cell5 HBW.out;refine bodyPost_ret (v:= .agg #[.int .i64 x1,.int .i64 x2,.int .i64 x3,.slice L m lc,.slice (some ⟨gb,0,none⟩) j j]) ?_ rfl ⟨L,m,lc,some ⟨gb,0,none⟩,j,j,by rw[HRC.out],?_,HKW.out⟩
   ·simp [results,Tryz.results235,go_sem,t0,t1,t2,t3,t4]
   ·rw[HRC.out];exact⟨HM.out.symm,takes_len _ _,HIF.out,HPF.out⟩
end Go.Proofs.YtjkmahmoclobmaaGreat.record
namespace Go.Proofs.YtjkmahmoclobmaaGreat.record
open Go.RowKit mem base row rowBack fill crc crcMath super item
theorem decodeC (bs:List UInt8):decode bs=if (readC bs).may=true∧(readC bs).bytes=bs then(readC bs,((readC bs).sum:Int),0)else(Rc.zero,0,2):=by
 rcases decode_or bs with⟨R,h1,h2,h3⟩|h
 ·have e:readC bs=R:=by rw[←h2];exact readC_bytes h1
  rw[e,if_pos ⟨R.may_iff.2 h1,h2⟩];exact h3
 ·by_cases hc:(readC bs).may=true∧(readC bs).bytes=bs
  ·rw[if_pos hc]
   conv=>lhs;rw[←hc.2]
   exact decode_bytes ((Rc.may_iff _).1 hc.1)
  ·rw[if_neg hc];exact h

theorem decode_fars (Q:List Nat)(A:Option Addr)(n c:Nat)(bs:List UInt8)(w:World)(hQ:∀ x∈Q,x<w.heap.size)(hv:Vals w [] A (bs.map B))(hl:bs.length=n)(hA:A=none→c=0)(hn:n≤65536):
  Calls Tryz.prog 216 #[.slice A n c] w fun e w'=>∃ (L:Option Addr) (m lc:Nat) (P:Option Addr) (k pc:Nat),
   e= .returned (.tuple #[.agg #[.int .i64 (decode bs).1.m,.int .i64 (decode bs).1.l,.int .i64 (decode bs).1.p,.slice L m lc,.slice P k pc],.int .i64 (decode bs).2.1,.int .i64 (decode bs).2.2])∧RcIn w' Q L m P k (decode bs).1∧Kept [] w w':=by
 have HV:=hide hv;have HQ:=hide hQ;clear hQ;have HA:=hide hA;have HL:=hide hl;clear hv hA hl;have hd:=decodeC bs;obtain⟨R,hR⟩:∃ R:Rc,readC bs=R:=⟨_,rfl⟩;rw[hR]at hd;have HR:=hide hR;clear hR;have hk0:=(Kept.refl [] w).alloc (.cells #[.int .i64 0,.int .i64 0,.int .i64 0,.slice none 0 0,.slice none 0 0] 111);have hb0:=Blk.new w 111 #[.int .i64 0,.int .i64 0,.int .i64 0,.slice none 0 0,.slice none 0 0];have hlt:=hb0.lt;obtain⟨g,hg⟩:∃ g,w.heap.size=g:=⟨_,rfl⟩;have HG:=hide (Nat.le_of_eq hg);rw[hg]at hb0 hlt;have HB0:=hide hb0;have HK0:=hide hk0;have HLT:=hide hlt;have HD:=hide hd;clear hb0 hk0 hd hlt;go_enter Tryz.func216,Tryz.ntmps216;go_wp2_with fail;refine(read_fars (g::Q) A n c bs _ (List.forall_mem_cons.2 ⟨HLT.out,fun x hx=>by have h1:=HQ.out x hx;have h2:=HK0.out.size;omega⟩) (HV.out.kept HK0.out (by simp)) HL.out HA.out hn).mono ?_;rintro e w1 ⟨L,m,lc,P,k,pc,rfl,hrc,hk⟩;rw[HR.out]at hrc ⊢;have HK1:=hide (HK0.out.trans hk (by simp));have HB1:=hide (hk.blk HB0.out (by simp));have hb2:=Blk.new w1 111 #[.int .i64 R.m,.int .i64 R.l,.int .i64 R.p,.slice L m lc,.slice P k pc];have hk2:=(Kept.refl [] w1).alloc (.cells #[.int .i64 R.m,.int .i64 R.l,.int .i64 R.p,.slice L m lc,.slice P k pc] 111);have HR2:=hide (hrc.kept hk2 (by simp));have HK2:=hide (HK1.out.trans hk2 (by simp));have HB2:=hide (hk2.blk HB1.out (by simp));have hgl:=HB1.out.lt;obtain⟨s,hs⟩:∃ s,w1.heap.size=s:=⟨_,rfl⟩;rw[hs]at hb2 hgl;have HS2:=hide hb2;obtain⟨c0,c1,c2,c3,c4⟩:=cell5 HS2.out;clear hb2 hk2 hk hrc HK1 HB1 HK0 HB0
 go_wp2_with fail;refine(encode_any R L P m lc k pc _ HR2.out.at_).mono ?_;rintro e w3 ⟨A3,n3,c3',rfl,hn3,hnb,hk⟩;have HK3:=hide (HK2.out.trans hk (by simp));have HB3:=hide (hk.blk HB2.out (by simp));have HS3:=hide (hk.blk HS2.out (by simp));have HR3:=hide (HR2.out.kept hk (by simp));have HN3:=hide (hnb.vals (S:=[]) (by simp));have HV3:=hide (HV.out.kept HK3.out (by simp));clear hk HK2 HB2 HS2 HR2 hnb c0 c1 c2 c3 c4;have f0:=HB3.out.frozen 0;have f1:=HB3.out.frozen 1;have f2:=HB3.out.frozen 2;have f3:=HB3.out.frozen 3;have f4:=HB3.out.frozen 4;obtain⟨d0,d1,d2,d3,d4⟩:=cell5 HB3.out
 by_cases hm:R.may=true
 ·have e1:encode R=(R.bytes,(R.sum:Int),0):=if_pos hm;rw[e1]at HN3 hn3 ⊢;have HN:=hide hn3
  by_cases hq:R.bytes=bs
  ·have HD2:Hid (decode bs=(R,(R.sum:Int),0)):=hide (by rw[HD.out,if_pos ⟨hm,hq⟩]);clear e1 hn3;go_wp2_with fail;refine(bytesEqual_any A3 A n3 n c3' c R.bytes bs _ HN.out.symm HL.out HN3.out HV3.out).mono ?_;rintro e w4 ⟨rfl,rfl⟩;rw[decide_eq_true hq];obtain⟨c0,c1,c2,c3,c4⟩:=cell5 HS3.out;have HBW:=hide (put5 (.int .i64 R.m) (.int .i64 R.l) (.int .i64 R.p) (.slice L m lc) (.slice P k pc) HB3.out);have HKW:=hide (put5_kept (g:=g) (S:=[]) (.int .i64 R.m) (.int .i64 R.l) (.int .i64 R.p) (.slice L m lc) (.slice P k pc) HK3.out (.inr HG.out));have HRW:=hide (HR3.out.kept (put5_kept (g:=g) (S:=[g]) (.int .i64 R.m) (.int .i64 R.l) (.int .i64 R.p) (.slice L m lc) (.slice P k pc) (Kept.refl [g] w3) (.inl (by simp))) (by simp));go_wp2;generalize (((((w3.setCell ⟨g,0,none⟩ (.int .i64 R.m)).setCell ⟨g,1,none⟩ (.int .i64 R.l)).setCell ⟨g,2,none⟩ (.int .i64 R.p)).setCell ⟨g,3,none⟩ (.slice L m lc)).setCell ⟨g,4,none⟩ (.slice P k pc))=W at HBW HKW HRW ⊢;obtain⟨t0,t1,t2,t3,t4⟩:=cell5 HBW.out;refine bodyPost_ret (v:= .tuple #[.agg #[.int .i64 R.m,.int .i64 R.l,.int .i64 R.p,.slice L m lc,.slice P k pc],.int .i64 R.sum,.int .i64 0]) ?_ rfl ⟨L,m,lc,P,k,pc,by rw[HD2.out],by rw[HD2.out];exact HRW.out.less (fun x hx=>by simp [hx]),HKW.out⟩
   simp [results,Tryz.results216,go_sem,t0,t1,t2,t3,t4]
  ·have HD2:Hid (decode bs=(Rc.zero,0,2)):=hide (by rw[HD.out,if_neg (fun h=>hq h.2)]);clear e1 hn3;go_wp2_with fail;refine(bytesEqual_any A3 A n3 n c3' c R.bytes bs _ HN.out.symm HL.out HN3.out HV3.out).mono ?_;rintro e w4 ⟨rfl,rfl⟩;rw[decide_eq_false hq];have HBW:=hide (put5 (.int .i64 0) (.int .i64 0) (.int .i64 0) (.slice none 0 0) (.slice none 0 0) HB3.out);have HKW:=hide (put5_kept (g:=g) (S:=[]) (.int .i64 0) (.int .i64 0) (.int .i64 0) (.slice none 0 0) (.slice none 0 0) HK3.out (.inr HG.out));go_wp2;generalize (((((w3.setCell ⟨g,0,none⟩ (.int .i64 0)).setCell ⟨g,1,none⟩ (.int .i64 0)).setCell ⟨g,2,none⟩ (.int .i64 0)).setCell ⟨g,3,none⟩ (.slice none 0 0)).setCell ⟨g,4,none⟩ (.slice none 0 0))=W at HBW HKW ⊢;obtain⟨t0,t1,t2,t3,t4⟩:=cell5 HBW.out;refine bodyPost_ret (v:= .tuple #[.agg #[.int .i64 0,.int .i64 0,.int .i64 0,.slice none 0 0,.slice none 0 0],.int .i64 0,.int .i64 2]) ?_ rfl ⟨none,0,0,none,0,0,by rw[HD2.out];rfl,by rw[HD2.out];exact RcIn.zero _ _ _ _,HKW.out⟩
   simp [results,Tryz.results216,go_sem,t0,t1,t2,t3,t4]
 ·have e1:encode R=([],0,1):=if_neg hm;rw[e1]at HN3 hn3 ⊢;have HD2:Hid (decode bs=(Rc.zero,0,2)):=hide (by rw[HD.out,if_neg (fun h=>hm h.1)]);clear e1 hn3;have HBW:=hide (put5 (.int .i64 0) (.int .i64 0) (.int .i64 0) (.slice none 0 0) (.slice none 0 0) HB3.out);have HKW:=hide (put5_kept (g:=g) (S:=[]) (.int .i64 0) (.int .i64 0) (.int .i64 0) (.slice none 0 0) (.slice none 0 0) HK3.out (.inr HG.out));go_wp2;generalize (((((w3.setCell ⟨g,0,none⟩ (.int .i64 0)).setCell ⟨g,1,none⟩ (.int .i64 0)).setCell ⟨g,2,none⟩ (.int .i64 0)).setCell ⟨g,3,none⟩ (.slice none 0 0)).setCell ⟨g,4,none⟩ (.slice none 0 0))=W at HBW HKW ⊢;obtain⟨t0,t1,t2,t3,t4⟩:=cell5 HBW.out;refine bodyPost_ret (v:= .tuple #[.agg #[.int .i64 0,.int .i64 0,.int .i64 0,.slice none 0 0,.slice none 0 0],.int .i64 0,.int .i64 2]) ?_ rfl ⟨none,0,0,none,0,0,by rw[HD2.out];rfl,by rw[HD2.out];exact RcIn.zero _ _ _ _,HKW.out⟩
  simp [results,Tryz.results216,go_sem,t0,t1,t2,t3,t4]
end Go.Proofs.YtjkmahmoclobmaaGreat.record
namespace Go.Proofs.YtjkmahmoclobmaaGreat.record
open Go.RowKit mem base row rowBack fill crc crcMath super item
theorem prefix_any (A P:Option Addr)(n c cp:Nat)(bs xs:List UInt8)(w:World)(hv:Vals w [] A (bs.map B))(hl:bs.length=n)(hnc:n≤c)(hn:2≤n)(hx:xs.length=2)(hv2:Vals w [] P (xs.map B)):
  Calls Tryz.prog 232 #[.slice A n c,.slice P 2 cp] w fun e w'=>e= .returned (.bool (decide (bs.take 2=xs)))∧w=w':=by
 have HV:Hid (Vals w [] A ((bs.take 2).map B)):=hide (by rw[List.map_take];exact hv.first 2);have HV2:=hide hv2;have HL:Hid ((bs.take 2).length=2):=hide (by rw[List.length_take];omega);have HX:=hide hx;clear hv hl hx hv2;go_enter Tryz.func232,Tryz.ntmps232;go_wp2_with fail;refine(bytesEqual_any A P 2 2 c cp (bs.take 2) xs _ HL.out HX.out HV.out HV2.out).mono ?_;rintro e w1 ⟨rfl,rfl⟩;go_wp2;go_ret;exact⟨rfl,rfl⟩

theorem from_len (A:Option Addr)(n c:Nat)(bs:List UInt8)(w:World)(hv:Vals w [] A (bs.map B))(hl:bs.length=n)(hA:A=none→c=0)(hm:n≤65536):
  Calls Tryz.prog 234 #[.slice A n c] w fun e w'=>∃ p b cap A',e= .returned (.pointer (some ⟨p,0,none⟩))∧w.heap.size≤p∧w.heap.size≤b∧b<w'.heap.size∧RowAt w' p b cap A' ⟨bs,0⟩∧Kept [] w w':=by
 subst hl;exact from_at A c bs w hv hA hm
theorem start_iff (bs:List UInt8)(h:bs.length=64):bs.take 2=[75,82]↔bs[0]? = some 75∧bs[1]? = some 82:=by
 match bs,h with
 | a::b::l,_=>simp
theorem size_in (bs:List UInt8)(h:bs.length=64)(hs:bs.take 2=[75,82]):sizeOf bs=if (1≤nOf bs∧nOf bs≤6)∧kOf bs≤nOf bs then 1+kOf bs else 0:=by
 unfold sizeOf
 have:=(start_iff bs h).1 hs
 by_cases hc:(1≤nOf bs∧nOf bs≤6)∧kOf bs≤nOf bs
 ·rw[if_pos ⟨h,this,hc.1,hc.2⟩,if_pos hc]
 ·rw[if_neg (fun hn=>hc ⟨hn.2.2.1,hn.2.2.2⟩),if_neg hc]

theorem size_len (A:Option Addr)(n c:Nat)(bs:List UInt8)(w:World)(hl:bs.length=n)(h:n≠64):
  Calls Tryz.prog 215 #[.slice A n c] w fun e w'=>e= .returned (.int .i64 (sizeOf bs))∧Kept [] w w':=by
 have HE:Hid (sizeOf bs=0):=hide (if_neg (fun hn=>h (by rw[←hl];exact hn.1)))
 have hne:((n:Int) != 64)=true:=by rw[bne_iff_ne];omega
 clear h;go_enter Tryz.func215,Tryz.ntmps215;go_wp2;go_ret;exact⟨by rw[HE.out];rfl,Kept.refl _ _⟩

theorem size_64 (A:Option Addr)(c:Nat)(bs:List UInt8)(w:World)(hv:Vals w [] A (bs.map B))(hl:bs.length=64)(hc:64≤c)(hA:A=none→c=0):
  Calls Tryz.prog 215 #[.slice A 64 c] w fun e w'=>e= .returned (.int .i64 (sizeOf bs))∧Kept [] w w':=by
 have hcv:=Go.Joins.run_convert_bytes_const_at (P:=Tryz.prog) w 41 5 #[.int .u8 75,.int .u8 82] 2 2 w.heap.size rfl Tryz.underlying41 Tryz.underlying5;have HV:=hide hv;have HA:=hide hA;have HL:=hide hl;clear hv hA hl;go_enter Tryz.func215,Tryz.ntmps215;go_wp2_with fail;refine(prefix_any A (some ⟨w.heap.size,0,none⟩) 64 c 2 bs [75,82] _ (HV.out.kept ((Kept.refl [] w).alloc _) (by simp)) HL.out hc (by omega) rfl (Vals.lit w [] _ _ _ ([75,82].map B) rfl (by simp))).mono ?_;rintro e w1 ⟨rfl,hw⟩;have HK1:Hid (Kept [] w w1):=hide (by rw[←hw];exact(Kept.refl [] w).alloc _);clear hw hcv
 by_cases hs:bs.take 2=[75,82]
 ·rw[decide_eq_true hs];have HE:=hide (size_in bs HL.out hs);obtain⟨⟨e1,e2,e3,e4,e5⟩,e6⟩:=sum_parts bs HL.out;clear e1 e2 e3 e6;have hp4:=numAt_pos bs 14 1;have hp5:=numAt_pos bs 15 1;have hb4:=cn_bd bs;have hb5:=ck_bd bs;obtain⟨q,hq⟩:∃ q:Nat,nOf bs=q:=⟨_,rfl⟩;obtain⟨k,hk⟩:∃ k:Nat,kOf bs=k:=⟨_,rfl⟩
  have h4:cn bs=(q:Int):=by rw[e4,←hq];unfold nOf;omega
  have h5:ck bs=(k:Int):=by rw[e5,←hk];unfold kOf;omega
  rw[hq,hk]at HE
  have hq2:q<256:=by omega
  have hk2:k<256:=by omega
  have H4:=hide h4;have H5:=hide h5;clear e4 e5 hp4 hp5 hb4 hb5 hq hk h4 h5 hs;go_wp2_with fail;refine(from_len A 64 c bs _ (HV.out.kept HK1.out (by simp)) HL.out HA.out (by omega)).mono ?_;rintro e w2 ⟨p,b,cap,A2,rfl,hp,hb,hb2,hr,hkk⟩;have HR2:=hide hr;have HK2:=hide (HK1.out.trans hkk (by simp));have HPW:=hide (show w.heap.size≤p by have:=HK1.out.size;omega);clear hr hkk hp hb;go_wp2_with fail;refine(readLead_any p b cap A2 bs _ HR2.out hb2).mono ?_;rintro e w3 ⟨rfl,_,hkk⟩;rw[H4.out,H5.out];have HK3:=hide ((HK2.out.trans hkk (by have:=HPW.out;simp;omega)).alloc (.cells #[.int .i64 (cm bs),.int .i64 (cl bs),.int .i64 (cp bs),.slice none 0 0,.slice none 0 0] 111));clear hkk;generalize cm bs=y1 at HK3 ⊢;generalize cl bs=y2 at HK3 ⊢;generalize cp bs=y3 at HK3 ⊢
  by_cases h16:1≤q∧q≤6
  ·have HB:=hide (show(1:Int)≤q∧(q:Int)≤6 by omega)
   by_cases hkq:k≤q
   ·have HE2:Hid (sizeOf bs=1+k):=hide (by rw[HE.out,if_pos ⟨h16,hkq⟩]);have hz:decide (q<k)=false:=decide_eq_false (by omega);clear h16 hkq;go_wp2_with fail;refine(between_yes q 1 6 _ HB.out).mono ?_;rintro e w4 ⟨rfl,rfl⟩;go_wp2;go_ret;exact⟨by rw[HE2.out];rfl,HK3.out⟩
   ·have HE2:Hid (sizeOf bs=0):=hide (by rw[HE.out,if_neg (fun hn=>hkq hn.2)]);have hz:decide (q<k)=true:=decide_eq_true (by omega);clear h16 hkq;go_wp2_with fail;refine(between_yes q 1 6 _ HB.out).mono ?_;rintro e w4 ⟨rfl,rfl⟩;go_wp2;go_ret;exact⟨by rw[HE2.out];rfl,HK3.out⟩
  ·have HE2:Hid (sizeOf bs=0):=hide (by rw[HE.out,if_neg (fun hn=>h16 hn.1)]);have HB:=hide (show ¬((1:Int)≤q∧(q:Int)≤6)by omega);clear h16;go_wp2_with fail;refine(between_no q 1 6 _ HB.out).mono ?_;rintro e w4 ⟨rfl,rfl⟩;go_wp2;go_ret;exact⟨by rw[HE2.out];rfl,HK3.out⟩
 ·rw[decide_eq_false hs];have HE:Hid (sizeOf bs=0):=hide (if_neg (fun hn=>hs ((start_iff bs HL.out).2 hn.2.1)));clear hs;go_wp2;go_ret;exact⟨by rw[HE.out];rfl,HK1.out⟩

theorem size_any (A:Option Addr)(n c:Nat)(bs:List UInt8)(w:World)(hv:Vals w [] A (bs.map B))(hl:bs.length=n)(hnc:n≤c)(hA:A=none→c=0):
  Calls Tryz.prog 215 #[.slice A n c] w fun e w'=>e= .returned (.int .i64 (sizeOf bs))∧Kept [] w w':=by
 by_cases h:n=64
 ·subst h;exact size_64 A c bs w hv hl hnc hA
 ·exact size_len A n c bs w hl h
end Go.Proofs.YtjkmahmoclobmaaGreat.record
