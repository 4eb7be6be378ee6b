import Derived.Test.YtjkmahmoclobmaaGreatYItemRef
import Derived.Test.YtjkmahmoclobmaaGreatYHeadCore
import Derived.Test.YtjkmahmoclobmaaGreatYAlike
set_option maxRecDepth 100000
set_option maxHeartbeats 1000000
namespace Go.Proofs.YtjkmahmoclobmaaGreat.hd
open Go.RowKit mem base row rowBack fill crc crcMath ref
open super (r0 take2 sumOf)
theorem rbytes_no (H:Hd)(w:World)(h:H.may=false):
  Calls Tryz.prog 66 #[H.val] w fun e w'=>e= .returned (.tuple #[.slice none 0 0,.int .i64 1])∧Kept [] w w':=by
 have HK:=hide ((Kept.refl [] w).alloc (.cells H.cells 127));unfold Hd.val;go_enter Tryz.func66,Tryz.ntmps66;go_wp2_with fail;refine(rmay_any H _).mono ?_;rintro e w1 ⟨rfl,hk⟩;rw[h];have HK1:=hide (HK.out.trans hk (by simp));clear hk;go_wp2;go_ret2;exact⟨rfl,HK1.out⟩

theorem take_body (H:Hd):(rowF 64 H.head).bs.take 60=H.body:=by
 show(H.head++List.replicate (64-H.head.length) 0).take 60=H.body
 rw[H.head_len];unfold Hd.body;rw[List.take_append,H.head_len,List.take_of_length_le (by rw[H.head_len];omega),List.take_replicate]
 rfl

theorem rbytes_new (H:Hd)(w:World)(h:H.may=true):
  Calls Tryz.prog 66 #[H.val] w fun e w'=>∃ g,e= .returned (.tuple #[.slice (some ⟨g,0,none⟩) 64 64,.int .i64 0])∧w.heap.size≤g∧Arr w' g 64 H.bytes∧Kept [] w w':=by
 have HB:=hide (Blk.new w 127 H.cells);have HK:=hide ((Kept.refl [] w).alloc (.cells H.cells 127));have HF:=hide (fits_small H h);unfold Hd.val;go_enter Tryz.func66,Tryz.ntmps66;go_wp2_with fail;refine(rmay_any H _).mono ?_;rintro e w1 ⟨rfl,hk⟩;rw[h];have HB1:=hide (hk.blk HB.out (by simp));have HK1:=hide (HK.out.trans hk (by simp));clear hk;have hb1:=HB1.out.lt;obtain⟨q,hq⟩:∃ q,w.heap.size=q:=⟨_,rfl⟩;have hq2:=HK1.out.size;rw[hq]at HB HB1 hb1 hq2 ⊢;clear HB HK;go_wp2_with fail;refine(rbegun_any 64 75 72 _ (by omega) (by omega)).mono ?_;rintro e w2 ⟨p,g,rfl,hp,hg,hr,hk⟩;have hp2:=hr.lt;have hg2:=hr.blt;have HGW:=hide (show q≤g by omega);have HR2:=hide hr;have HB2:=hide (hk.blk HB1.out (by simp));have HK2:=hide (HK1.out.trans hk (by simp));clear hr hk HB1 HK1;obtain⟨c0,c1,c2,c3⟩:=Hd.cell_at HB2.out;have e1:=rowF_put 64 [75,72] 1 [H.g] rfl HF.out.1 (by simp);have E1:=hide e1;clear e1;go_wp2_with fail;refine(rone_any p g _ _ 1 H.g _ HR2.out (congrArg Prod.snd E1.out)).mono ?_;rintro e w4 ⟨rfl,hr,hk⟩;have hs4:=hk.size;have HR4:=hide hr;have HB4:=hide (hk.blk HB2.out (by simp;omega));have HK4:=hide (HK2.out.trans hk (by simp;omega));clear hr hk c0 c1 c2 c3 HR2 HB2 HK2;obtain⟨c0,c1,c2,c3⟩:=Hd.cell_at HB4.out;go_wp2_with fail;refine(rput_at p g _ 4 (some ⟨w4.heap.size,0,none⟩) [H.m,H.l,H.v] 3 3 _ rfl (HR4.out.kept (S:=[]) ((Kept.refl _ w4).alloc _) (by simp) (by simp)) (Vals.lit w4 [p,g] _ _ _ ([H.m,H.l,H.v].map I) rfl (by simp;omega)) (by omega)).mono ?_;rintro e w5 ⟨rfl,hr,hk⟩;rw[show((4:Int))=((4:Nat):Int)by rfl,rowF_put 64 _ 4 _ rfl HF.out.2 (by simp [bytesOf_length])]at*
 have HR5:Hid (RefAt w5 p g (rowF 64 H.head)):=hide hr;have HK5:=hide (HK4.out.lit _ hk (by simp;omega));clear hr hk c0 c1 c2 c3 HR4 HB4 HK4;go_wp2_with fail;refine(rclosed_any p g _ _ HR5.out (rowF_len 64 H.head (by rw[H.head_len];omega))).mono ?_;rintro e w6 ⟨rfl,ha,hk⟩;rw[take_body]at ha;have HA6:=hide ha;have HK6:=hide (HK5.out.trans hk (by simp;omega));clear ha hk;go_wp2;go_ret2;exact⟨g,rfl,by have:=HGW.out;omega,HA6.out,HK6.out⟩
theorem rbytes_yes (H:Hd)(w:World)(h:H.may=true):
  Calls Tryz.prog 66 #[H.val] w fun e w'=>∃ g,e= .returned (.tuple #[.slice (some ⟨g,0,none⟩) 64 64,.int .i64 0])∧Arr w' g 64 H.bytes∧Kept [] w w':=
 (rbytes_new H w h).mono fun _ _ ⟨g,h1,_,h2,h3⟩=>⟨g,h1,h2,h3⟩

theorem rbytes_any (H:Hd)(w:World):
  Calls Tryz.prog 66 #[H.val] w fun e w'=>∃ A n c',e= .returned (.tuple #[.slice A n c',.int .i64 (encode H).2])∧n=(encode H).1.length∧Vals w' [] A ((encode H).1.map B)∧Kept [] w w':=by
 by_cases h:H.may=true
 ·have e:encode H=(H.bytes,0):=if_pos h;rw[e]
  exact(rbytes_yes H w h).mono fun _ _ ⟨g,h1,h2,h3⟩=>⟨_,64,64,h1,H.bytes_len.symm,h2.vals (by simp),h3⟩
 ·have e:encode H=([],1):=if_neg h;rw[e]
  exact(rbytes_no H w ((Bool.not_eq_true _).mp h)).mono fun _ _ ⟨h1,h3⟩=>⟨none,0,0,h1,rfl,Vals.nil _ _ _,h3⟩

theorem decode_starts (bs:List UInt8)(h:startB bs 64 75 72=false):decode bs=(Hd.zero,2):=
 decode_no bs fun S _ e=>by
  have h1:=(bytes_start S).1;have h2:=(bytes_start S).2;have h3:=S.bytes_len;rw[e]at h1 h2 h3;unfold startB at h;rw[h1,h2,decide_eq_true h3]at h;cases h
theorem requal_any (A1 A2:Option Addr)(n1 n2 c1 c2:Nat)(xs ys:List UInt8)(w:World)(hn1:xs.length=n1)(hn2:ys.length=n2)(h1:Vals w [] A1 (xs.map B))(h2:Vals w [] A2 (ys.map B))(hm:n1≤140737488355328):
  Calls Tryz.prog 115 #[.slice A1 n1 c1,.slice A2 n2 c2] w fun e w'=>e= .returned (.bool (decide (xs=ys)))∧Kept [] w w':=by
 subst hn1 hn2
 exact(base.equal_any A1 A2 c1 c2 xs ys w h1 h2 hm).mono fun e w' ⟨h,k,hw⟩=>⟨h,by subst hw;exact(Kept.refl [] w).drewN k⟩

theorem rof_any (A:Option Addr)(n c:Nat)(bs:List UInt8)(w:World)(hv:Vals w [] A (bs.map B))(hl:bs.length=n)(hnc:n≤c)(hn:n≤65536):
  Calls Tryz.prog 80 #[.slice A n c] w fun e w'=>e= .returned (.tuple #[(decode bs).1.val,.int .i64 (decode bs).2])∧Kept [] w w':=by
 have HV:=hide hv;have HL:=hide hl;clear hv hl;have hb0:Blk ((w.alloc (.cells Hd.zero.cells 127)).alloc (.cells Hd.zero.cells 127)) w.heap.size 127 Hd.zero.cells:=(Blk.new w _ _).alloc _
 have hb1:Blk ((w.alloc (.cells Hd.zero.cells 127)).alloc (.cells Hd.zero.cells 127)) (w.heap.size+1) 127 Hd.zero.cells:=by
  have:=Blk.new (w.alloc (.cells Hd.zero.cells 127)) 127 Hd.zero.cells
  simpa using this
 have hk1:Kept [] w ((w.alloc (.cells Hd.zero.cells 127)).alloc (.cells Hd.zero.cells 127)):=((Kept.refl [] w).alloc _).alloc _;obtain⟨g,hg⟩:∃ g,w.heap.size=g:=⟨_,rfl⟩;obtain⟨q,hq⟩:∃ q,g+1=q:=⟨_,rfl⟩;rw[hg]at hb0 hb1;rw[hq]at hb1;have HG:Hid (w.heap.size≤g):=hide (by omega);have HQ:Hid (w.heap.size≤q):=hide (by omega)
 have hgq:g≠q:=by omega
 have HB0:=hide hb0;have HQ0:=hide hb1;have HK0:=hide hk1;clear hb0 hb1 hk1;go_enter Tryz.func80,Tryz.ntmps80;go_wp2_with fail;refine(rstarts_any A n c 64 75 72 bs _ (HV.out.kept HK0.out (by simp)) HL.out (by omega)).mono ?_;rintro e w1 ⟨rfl,hw1⟩;have hb:=HB0.out;have hs:=HQ0.out;have hk:=HK0.out;rw[hw1]at hb hs hk;have HB1:Hid (Blk w1 g 127 Hd.zero.cells):=hide hb;have HQ1:Hid (Blk w1 q 127 Hd.zero.cells):=hide hs;have HK1:=hide hk;clear hb hs hk hw1 HB0 HQ0 HK0 hg hq
 by_cases hst:startB bs 64 75 72=true
 ·rw[hst]
  have h64:n=64:=by
   unfold startB at hst;simp only[Bool.and_eq_true,decide_eq_true_eq]at hst
   have:=HL.out
   omega
  subst h64;have hlt:=HQ1.out.lt;have hlt0:=HB1.out.lt;clear hst;go_wp2_with fail;refine(rfrom_ok A 64 c bs _ HL.out hnc (HV.out.kept HK1.out (by simp)) (by omega)).mono ?_;rintro e w2 ⟨p,b,rfl,hp,hb,hr,hk⟩
  have hpq:p≠q:=by omega
  have hbq:b≠q:=by omega
  have hpg:p≠g:=by omega
  have HPW:Hid (w.heap.size≤p):=hide (by have:=HK1.out.size;omega);have hr0:(⟨bs,2⟩:Row)=r0 bs:=(take2 bs (by rw[HL.out];omega)).symm;have hr2:=hr.goto 2 (by have:=HL.out;dsimp only;omega) 2 rfl;dsimp only at hr2;rw[hr0]at hr2;have c1:=hr.c1;have f1:=hr.f1;dsimp only at c1;have HR2:=hide hr2;have HB2:=hide ((hk.blk HB1.out (by simp)).far_ hpg.symm 1 (.int .i64 2));have HQ2:=hide ((hk.blk HQ1.out (by simp)).far_ hpq.symm 1 (.int .i64 2));have HK2:=hide ((HK1.out.trans hk (by simp)).set_ (b:=p) (.inr HPW.out) 1 (.int .i64 2));clear hr hk hr2 hr0 HB1 HQ1 HK1 hp hb hlt hlt0;obtain⟨u,hu⟩:∃ u:Hd,readOf bs=u:=⟨_,rfl⟩;have HU:=hide hu
  have eg:((r0 bs).get 1).1=u.g:=by rw[←hu];exact readOf_g bs
  have em:((r1 bs).get 4).1=u.m:=by rw[←hu];exact readOf_m bs
  have el:((r2 bs).get 4).1=u.l:=by rw[←hu];exact readOf_l bs
  have ev:((r3 bs).get 4).1=u.v:=by rw[←hu];exact readOf_v bs
  have Eg:=hide eg;have Em:=hide em;have El:=hide el;have Ev:=hide ev;clear eg em el ev hu;go_wp2_with fail;refine(rnum_any p b (r0 bs) (r1 bs) 1 u.g _ HR2.out (r1_eq bs) Eg.out).mono ?_;rintro e w3 ⟨rfl,hr,hk⟩;have hq3:Blk w3 q 127 (Hd.cells ⟨0,0,0,0⟩):=hk.blk HQ2.out (by simp;exact Ne.symm hpq);have d3:w3.cell? ⟨q,0,none⟩=some (.int .i64 0):=hq3.cell 0;have f3:=hq3.frozen 0;have HQ3:Hid (Blk (w3.setCell ⟨q,0,none⟩ (.int .i64 u.g)) q 127 (Hd.cells ⟨u.g,0,0,0⟩)):=hide (hq3.set_ 0 (.int .i64 u.g));have hks:Kept [q] w3 (w3.setCell ⟨q,0,none⟩ (.int .i64 u.g)):=(Kept.refl [q] w3).set_ (b:=q) (.inl (by simp)) 0 (.int .i64 u.g);have HR3:=hide (hr.kept hks (by simp;exact hpq) (by simp;exact hbq));have HB3:=hide (hks.blk (hk.blk HB2.out (by simp;exact Ne.symm hpg)) (by simp;exact hgq));have HK3:=hide ((HK2.out.trans hk (by simp;exact HPW.out)).trans hks (by simp;exact HQ.out));clear hr hk hks hq3 HR2 HB2 HQ2 HK2 c1 f1;go_wp2_with fail;refine(rnum_any p b (r1 bs) (r2 bs) 4 u.m _ HR3.out (r2_eq bs) Em.out).mono ?_;rintro e w4 ⟨rfl,hr,hk⟩;have hq4:Blk w4 q 127 (Hd.cells ⟨u.g,0,0,0⟩):=hk.blk HQ3.out (by simp;exact Ne.symm hpq);have d4:w4.cell? ⟨q,1,none⟩=some (.int .i64 0):=hq4.cell 1;have f4:=hq4.frozen 1;have HQ4:Hid (Blk (w4.setCell ⟨q,1,none⟩ (.int .i64 u.m)) q 127 (Hd.cells ⟨u.g,u.m,0,0⟩)):=hide (hq4.set_ 1 (.int .i64 u.m));have hks:Kept [q] w4 (w4.setCell ⟨q,1,none⟩ (.int .i64 u.m)):=(Kept.refl [q] w4).set_ (b:=q) (.inl (by simp)) 1 (.int .i64 u.m);have HR4:=hide (hr.kept hks (by simp;exact hpq) (by simp;exact hbq))
  have HB4:=hide (hks.blk (hk.blk HB3.out (by simp;exact Ne.symm hpg)) (by simp;exact hgq));have HK4:=hide ((HK3.out.trans hk (by simp;exact HPW.out)).trans hks (by simp;exact HQ.out));clear hr hk hks hq4 HR3 HB3 HQ3 HK3 d3 f3;go_wp2_with fail;refine(rnum_any p b (r2 bs) (r3 bs) 4 u.l _ HR4.out (r3_eq bs) El.out).mono ?_;rintro e w5 ⟨rfl,hr,hk⟩;have hq5:Blk w5 q 127 (Hd.cells ⟨u.g,u.m,0,0⟩):=hk.blk HQ4.out (by simp;exact Ne.symm hpq);have d5:w5.cell? ⟨q,2,none⟩=some (.int .i64 0):=hq5.cell 2;have f5:=hq5.frozen 2;have HQ5:Hid (Blk (w5.setCell ⟨q,2,none⟩ (.int .i64 u.l)) q 127 (Hd.cells ⟨u.g,u.m,u.l,0⟩)):=hide (hq5.set_ 2 (.int .i64 u.l));have hks:Kept [q] w5 (w5.setCell ⟨q,2,none⟩ (.int .i64 u.l)):=(Kept.refl [q] w5).set_ (b:=q) (.inl (by simp)) 2 (.int .i64 u.l);have HR5:=hide (hr.kept hks (by simp;exact hpq) (by simp;exact hbq));have HB5:=hide (hks.blk (hk.blk HB4.out (by simp;exact Ne.symm hpg)) (by simp;exact hgq));have HK5:=hide ((HK4.out.trans hk (by simp;exact HPW.out)).trans hks (by simp;exact HQ.out));clear hr hk hks hq5 HR4 HB4 HQ4 HK4 d4 f4;go_wp2_with fail;refine(rnum_any p b (r3 bs) (((r3 bs).get 4).2.2) 4 u.v _ HR5.out (rfl) Ev.out).mono ?_;rintro e w6 ⟨rfl,hr,hk⟩;have hq6:Blk w6 q 127 (Hd.cells ⟨u.g,u.m,u.l,0⟩):=hk.blk HQ5.out (by simp;exact Ne.symm hpq);have d6:w6.cell? ⟨q,3,none⟩=some (.int .i64 0):=hq6.cell 3;have f6:=hq6.frozen 3;have HQ6:Hid (Blk (w6.setCell ⟨q,3,none⟩ (.int .i64 u.v)) q 127 (Hd.cells ⟨u.g,u.m,u.l,u.v⟩)):=hide (hq6.set_ 3 (.int .i64 u.v));have hks:Kept [q] w6 (w6.setCell ⟨q,3,none⟩ (.int .i64 u.v)):=(Kept.refl [q] w6).set_ (b:=q) (.inl (by simp)) 3 (.int .i64 u.v)
  have HR6:=hide (hr.kept hks (by simp;exact hpq) (by simp;exact hbq));have HB6:=hide (hks.blk (hk.blk HB5.out (by simp;exact Ne.symm hpg)) (by simp;exact hgq));have HK6:=hide ((HK5.out.trans hk (by simp;exact HPW.out)).trans hks (by simp;exact HQ.out));clear hr hk hks hq6 HR5 HB5 HQ5 HK5 d5 f5;obtain⟨a0,a1,a2,a3⟩:=Hd.cell_at HQ6.out;go_wp2_with fail;refine(rbytes_any u _).mono ?_;rintro e w8 ⟨A3,n3,c3,rfl,hn3,hnb,hk⟩;have HK8:=hide (HK6.out.trans hk (by simp));have HB8:=hide (hk.blk HB6.out (by simp));have HQ8:=hide (hk.blk HQ6.out (by simp));have HN8:=hide hnb;have HV8:=hide (HV.out.kept HK8.out (by simp));clear hk HK6 HB6 HQ6 HR6 hnb a0 a1 a2 a3
  have hd:decode bs=if u.may=true∧u.bytes=bs then(u,0)else(Hd.zero,2):=by unfold decode;rw[HU.out]
  by_cases hm:u.may=true
  ·have e1:encode u=(u.bytes,0):=if_pos hm;rw[e1]at HN8 hn3 ⊢;have HN:=hide hn3
   by_cases hq:u.bytes=bs
   ·rw[if_pos ⟨hm,hq⟩]at hd;have HD:=hide hd;clear hd e1 hn3;go_wp2_with fail;refine(requal_any A3 A n3 64 c3 c u.bytes bs _ HN.out.symm HL.out HN8.out HV8.out (by rw[HN.out,u.bytes_len];omega)).mono ?_;rintro e w9 ⟨rfl,hk⟩;rw[decide_eq_true hq];have HK9:=hide (HK8.out.trans hk (by simp));have HB9:=hide (hk.blk HB8.out (by simp));obtain⟨a0,a1,a2,a3⟩:=Hd.cell_at (hk.blk HQ8.out (by simp));clear hk;have f0:=HB9.out.frozen 0;have f1:=HB9.out.frozen 1;have f2:=HB9.out.frozen 2;have f3:=HB9.out.frozen 3;obtain⟨d0,d1,d2,d3⟩:=Hd.cell_at HB9.out;have hbw:=hide (Hd.put_at u.g u.m u.l u.v HB9.out);have hkw:=hide (Hd.put_kept (S:=[]) u.g u.m u.l u.v HK9.out (.inr HG.out));go_wp2;rw[put4_eq];generalize put4 w9 g u.g u.m u.l u.v=W at hbw hkw ⊢;obtain⟨t0,t1,t2,t3⟩:=Hd.cell_at hbw.out;refine bodyPost_ret (v:= .tuple #[u.val,.int .i64 0]) ?_ rfl ⟨by rw[HD.out],hkw.out⟩
    simp [results,Tryz.results80,go_sem,t0,t1,t2,t3,Hd.val]
   ·rw[if_neg (fun h=>hq h.2)]at hd;have HD:=hide hd;clear hd e1 hn3;go_wp2_with fail;refine(requal_any A3 A n3 64 c3 c u.bytes bs _ HN.out.symm HL.out HN8.out HV8.out (by rw[HN.out,u.bytes_len];omega)).mono ?_;rintro e w9 ⟨rfl,hk⟩;rw[decide_eq_false hq];have HK9:=hide (HK8.out.trans hk (by simp));have HB9:=hide (hk.blk HB8.out (by simp));clear hk;have f0:=HB9.out.frozen 0;have f1:=HB9.out.frozen 1;have f2:=HB9.out.frozen 2;have f3:=HB9.out.frozen 3;obtain⟨d0,d1,d2,d3⟩:=Hd.cell_at HB9.out;have hbw:=hide (Hd.put_at 0 0 0 0 HB9.out);have hkw:=hide (Hd.put_kept (S:=[]) 0 0 0 0 HK9.out (.inr HG.out));go_wp2;rw[put4_eq];generalize put4 w9 g 0 0 0 0=W at hbw hkw ⊢;obtain⟨t0,t1,t2,t3⟩:=Hd.cell_at hbw.out;refine bodyPost_ret (v:= .tuple #[Hd.zero.val,.int .i64 2]) ?_ rfl ⟨by rw[HD.out],hkw.out⟩
    simp [results,Tryz.results80,go_sem,t0,t1,t2,t3,Hd.val,Hd.zero]
  ·have e1:encode u=([],1):=if_neg hm;rw[e1]at HN8 hn3 ⊢;rw[if_neg (fun h=>hm h.1)]at hd;have HD:=hide hd;clear hd e1 hn3;have f0:=HB8.out.frozen 0;have f1:=HB8.out.frozen 1;have f2:=HB8.out.frozen 2;have f3:=HB8.out.frozen 3;obtain⟨d0,d1,d2,d3⟩:=Hd.cell_at HB8.out;have hbw:=hide (Hd.put_at 0 0 0 0 HB8.out);have hkw:=hide (Hd.put_kept (S:=[]) 0 0 0 0 HK8.out (.inr HG.out));go_wp2;rw[put4_eq];generalize put4 w8 g 0 0 0 0=W at hbw hkw ⊢;obtain⟨t0,t1,t2,t3⟩:=Hd.cell_at hbw.out;refine bodyPost_ret (v:= .tuple #[Hd.zero.val,.int .i64 2]) ?_ rfl ⟨by rw[HD.out],hkw.out⟩
   simp [results,Tryz.results80,go_sem,t0,t1,t2,t3,Hd.val,Hd.zero]
 ·have hf:=(Bool.not_eq_true _).mp hst;have HD:=hide (decode_starts bs hf);rw[hf];clear hst hf;obtain⟨a0,a1,a2,a3⟩:=Hd.cell_at HQ1.out;simp only[Hd.zero]at a0 a1 a2 a3;have f0:=HB1.out.frozen 0;have f1:=HB1.out.frozen 1;have f2:=HB1.out.frozen 2;have f3:=HB1.out.frozen 3;obtain⟨d0,d1,d2,d3⟩:=Hd.cell_at HB1.out;have hbw:=hide (Hd.put_at 0 0 0 0 HB1.out);have hkw:=hide (Hd.put_kept (S:=[]) 0 0 0 0 HK1.out (.inr HG.out));go_wp2;rw[put4_eq];generalize put4 w1 g 0 0 0 0=W at hbw hkw ⊢;obtain⟨t0,t1,t2,t3⟩:=Hd.cell_at hbw.out;refine bodyPost_ret (v:= .tuple #[Hd.zero.val,.int .i64 2]) ?_ rfl ⟨by rw[HD.out],hkw.out⟩
  simp [results,Tryz.results80,go_sem,t0,t1,t2,t3,Hd.val,Hd.zero]
end Go.Proofs.YtjkmahmoclobmaaGreat.hd
namespace Go.Proofs.YtjkmahmoclobmaaGreat.hd
open Go.RowKit mem base
theorem rfits_any (A:Option Addr)(n c:Nat)(bs:List UInt8)(s o l v m:Int)(w:World)(hv:Vals w [] A (bs.map B))(hl:bs.length=n)(hnc:n≤c)(hn:n≤65536):
  Calls Tryz.prog 79 #[.slice A n c,posVal s o l v m] w fun e w'=>e= .returned (.bool (fits bs s l v m))∧Kept [] w w':=by
 have HV:=hide hv;have HL:=hide hl;clear hv hl;obtain⟨u,eu,hu⟩:∃ u eu,decode bs=(u,eu):=⟨_,_,rfl⟩
 have hf:fits bs s l v m=(decide (eu=0)&&(decide (u.g=s)&&(decide (u.l=l)&&(decide (u.v=v)&&decide (m≤u.m))))):=by unfold fits;rw[hu]
 have he:eu=0∨eu=2:=by
  rcases decode_or bs with⟨S,_,_,h3⟩|h3
  ·rw[hu,Prod.mk.injEq]at h3;exact .inl h3.2
  ·rw[hu,Prod.mk.injEq]at h3;exact .inr h3.2
 have HF:=hide hf;have HU:=hide hu;clear hf hu;obtain⟨w1,hw1⟩:∃ w1,w.alloc (.cells #[.int .i64 s,.int .i64 o,.int .i64 l,.int .i64 v,.int .i64 m] 24)=w1:=⟨_,rfl⟩
 have hk1:Kept [] w w1:=by rw[←hw1];exact(Kept.refl [] w).alloc _
 have hb1:Blk w1 w.heap.size 24 #[.int .i64 s,.int .i64 o,.int .i64 l,.int .i64 v,.int .i64 m]:=by rw[←hw1];exact Blk.new w _ _
 obtain⟨g,hg⟩:∃ g,w.heap.size=g:=⟨_,rfl⟩;rw[hg]at hb1;have HB1:=hide hb1;have HK1:=hide hk1;clear hb1 hk1;unfold posVal;go_enter Tryz.func79,Tryz.ntmps79;go_wp2_with fail;refine(rof_any A n c bs _ (HV.out.kept HK1.out (by simp)) HL.out hnc hn).mono ?_;rintro e w2 ⟨rfl,hk⟩;rw[HU.out];have hb2:=hk.blk HB1.out (by simp);have HK2:=hide (HK1.out.trans hk (by simp));clear hk HK1 HB1 hw1;obtain⟨w3,hw3⟩:∃ w3,w2.alloc (.cells u.cells 127)=w3:=⟨_,rfl⟩
 have hk3:Kept [] w2 w3:=by rw[←hw3];exact(Kept.refl [] w2).alloc _
 have hs3:Blk w3 w2.heap.size 127 u.cells:=by rw[←hw3];exact Blk.new w2 _ _
 obtain⟨q,hq⟩:∃ q,w2.heap.size=q:=⟨_,rfl⟩;rw[hq]at hs3;have HK3:=hide (HK2.out.trans hk3 (by simp));have hb3:=hk3.blk hb2 (by simp);have p0:w3.cell? ⟨g,0,none⟩=some (.int .i64 s):=hb3.cell 0;have p2:w3.cell? ⟨g,2,none⟩=some (.int .i64 l):=hb3.cell 2;have p3:w3.cell? ⟨g,3,none⟩=some (.int .i64 v):=hb3.cell 3;have p4:w3.cell? ⟨g,4,none⟩=some (.int .i64 m):=hb3.cell 4;obtain⟨d0,d1,d2,d3⟩:=Hd.cell_at hs3;clear hk3 hs3 hb2 hb3 HK2;unfold Hd.val;unfold Hd.cells at hw3
 rcases he with rfl|rfl
 ·by_cases h0:u.g=s
  ·subst h0
   by_cases h1:u.l=l
   ·subst h1
    by_cases h2:u.v=v
    ·subst h2
     by_cases h3:m≤u.m
     ·skip
      go_wp2;go_ret;exact⟨by rw[HF.out];simp [h3],HK3.out⟩
     ·have h3':u.m<m:=by omega
      go_wp2;go_ret;exact⟨by rw[HF.out];simp,HK3.out⟩
    ·have h2':(u.v==v)=false:=beq_eq_false_iff_ne.2 h2;have H2:=hide h2;clear h2;go_wp2;go_ret;exact⟨by rw[HF.out];simp [H2.out],HK3.out⟩
   ·have h1':(u.l==l)=false:=beq_eq_false_iff_ne.2 h1;have H1:=hide h1;clear h1;go_wp2;go_ret;exact⟨by rw[HF.out];simp [H1.out],HK3.out⟩
  ·have h0':(u.g==s)=false:=beq_eq_false_iff_ne.2 h0;have H0:=hide h0;clear h0;go_wp2;go_ret;exact⟨by rw[HF.out];simp [H0.out],HK3.out⟩
 ·skip
  go_wp2;go_ret;exact⟨by rw[HF.out];simp,HK3.out⟩
end Go.Proofs.YtjkmahmoclobmaaGreat.hd
