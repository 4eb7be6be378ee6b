import Derived.Test.YtjkmahmoclobmaaGreatYScanCore
import Derived.Test.YtjkmahmoclobmaaGreatYHeld
import Derived.Test.YtjkmahmoclobmaaGreatYFar
import Derived.Test.YtjkmahmoclobmaaGreatYOwns
import Derived.Test.YtjkmahmoclobmaaGreatYRecordDec
import Derived.Test.YtjkmahmoclobmaaGreatYHeldX
import Derived.Test.YtjkmahmoclobmaaGreatYHeadCore
set_option maxRecDepth 100000
set_option maxHeartbeats 4000000
namespace Go.Proofs.YtjkmahmoclobmaaGreat.sc
open Go.RowKit mem base disk
open record (Rc)
def WkAt (w:World)(q:Nat)(dv:Option Addr)(a z:Int)(p:Ps)(er:Int)(ov:Bool):Prop:=
 Blk w q 235 #[.pointer dv,.int .i64 a,.int .i64 z,.int .i64 p.s,.int .i64 p.o,.int .i64 p.l,.int .i64 p.v,.int .i64 p.m,.int .i64 er,.bool ov]
def ScAt (w:World)(x:Nat)(dv:Option Addr)(a z:Int)(p:Ps)(hd:Bool)(e:Ps)(er:Int):Prop:=
 Blk w x 146 #[.pointer dv,.int .i64 a,.int .i64 z,.int .i64 p.s,.int .i64 p.o,.int .i64 p.l,.int .i64 p.v,.int .i64 p.m,.bool hd,.int .i64 e.s,.int .i64 e.o,.int .i64 e.l,.int .i64 e.v,.int .i64 e.m,.int .i64 er]

section
variable {w w':World}{q x:Nat}{dv:Option Addr}{a z er:Int}{p e:Ps}{ov hd:Bool}{S:List Nat}
theorem WkAt.kept (h:WkAt w q dv a z p er ov)(k:Kept S w w')(hq:q∉S):WkAt w' q dv a z p er ov:=k.blk h hq
theorem ScAt.kept (h:ScAt w x dv a z p hd e er)(k:Kept S w w')(hx:x∉S):ScAt w' x dv a z p hd e er:=k.blk h hx
theorem WkAt.lt (h:WkAt w q dv a z p er ov):q<w.heap.size:=Blk.lt h
theorem ScAt.lt (h:ScAt w x dv a z p hd e er):x<w.heap.size:=Blk.lt h
theorem WkAt.seg (h:WkAt w q dv a z p er ov):w.cell? ⟨q,0,none⟩=some (.pointer dv)∧w.cell? ⟨q,1,none⟩=some (.int .i64 a)∧w.cell? ⟨q,2,none⟩=some (.int .i64 z):=⟨Blk.cell h 0,Blk.cell h 1,Blk.cell h 2⟩
theorem WkAt.place (h:WkAt w q dv a z p er ov):w.cell? ⟨q,3,none⟩=some (.int .i64 p.s)∧w.cell? ⟨q,4,none⟩=some (.int .i64 p.o)∧w.cell? ⟨q,5,none⟩=some (.int .i64 p.l)∧w.cell? ⟨q,6,none⟩=some (.int .i64 p.v)∧w.cell? ⟨q,7,none⟩=some (.int .i64 p.m):=⟨Blk.cell h 3,Blk.cell h 4,Blk.cell h 5,Blk.cell h 6,Blk.cell h 7⟩
theorem WkAt.rest (h:WkAt w q dv a z p er ov):w.cell? ⟨q,8,none⟩=some (.int .i64 er)∧w.cell? ⟨q,9,none⟩=some (.bool ov):=⟨Blk.cell h 8,Blk.cell h 9⟩
theorem WkAt.frozen (h:WkAt w q dv a z p er ov)(i:Nat):w.frozen? ⟨q,i,none⟩=false:=Blk.frozen h i
theorem ScAt.frozen (h:ScAt w x dv a z p hd e er)(i:Nat):w.frozen? ⟨x,i,none⟩=false:=Blk.frozen h i
theorem ScAt.seg (h:ScAt w x dv a z p hd e er):w.cell? ⟨x,0,none⟩=some (.pointer dv)∧w.cell? ⟨x,1,none⟩=some (.int .i64 a)∧w.cell? ⟨x,2,none⟩=some (.int .i64 z):=⟨Blk.cell h 0,Blk.cell h 1,Blk.cell h 2⟩
theorem ScAt.from_ (h:ScAt w x dv a z p hd e er):w.cell? ⟨x,3,none⟩=some (.int .i64 p.s)∧w.cell? ⟨x,4,none⟩=some (.int .i64 p.o)∧w.cell? ⟨x,5,none⟩=some (.int .i64 p.l)∧w.cell? ⟨x,6,none⟩=some (.int .i64 p.v)∧w.cell? ⟨x,7,none⟩=some (.int .i64 p.m)∧w.cell? ⟨x,8,none⟩=some (.bool hd):=⟨Blk.cell h 3,Blk.cell h 4,Blk.cell h 5,Blk.cell h 6,Blk.cell h 7,Blk.cell h 8⟩
theorem ScAt.end_ (h:ScAt w x dv a z p hd e er):w.cell? ⟨x,9,none⟩=some (.int .i64 e.s)∧w.cell? ⟨x,10,none⟩=some (.int .i64 e.o)∧w.cell? ⟨x,11,none⟩=some (.int .i64 e.l)∧w.cell? ⟨x,12,none⟩=some (.int .i64 e.v)∧w.cell? ⟨x,13,none⟩=some (.int .i64 e.m)∧w.cell? ⟨x,14,none⟩=some (.int .i64 er):=⟨Blk.cell h 9,Blk.cell h 10,Blk.cell h 11,Blk.cell h 12,Blk.cell h 13,Blk.cell h 14⟩
theorem WkAt.setErr (h:WkAt w q dv a z p er ov)(x:Int):WkAt (w.setCell ⟨q,8,none⟩ (.int .i64 x)) q dv a z p x ov:=Blk.set_ h 8 _
theorem WkAt.setOver (h:WkAt w q dv a z p er ov)(x:Bool):WkAt (w.setCell ⟨q,9,none⟩ (.bool x)) q dv a z p er x:=Blk.set_ h 9 _
theorem WkAt.setPlace (h:WkAt w q dv a z p er ov)(x:Ps):WkAt (((((w.setCell ⟨q,3,none⟩ (.int .i64 x.s)).setCell ⟨q,4,none⟩ (.int .i64 x.o)).setCell ⟨q,5,none⟩ (.int .i64 x.l)).setCell ⟨q,6,none⟩ (.int .i64 x.v)).setCell ⟨q,7,none⟩ (.int .i64 x.m)) q dv a z x er ov:=
 Blk.set_ (Blk.set_ (Blk.set_ (Blk.set_ (Blk.set_ h 3 _) 4 _) 5 _) 6 _) 7 _
end
def Dsk (w:World)(F:List Nat)(dv:Option Addr)(z:Int)(D:Dk):Prop:=0<z→∃ d,dv=some ⟨d,0,none⟩∧VD w F d D
theorem Dsk.kept {w w':World}{F S:List Nat}{dv:Option Addr}{z:Int}{D:Dk}(h:Dsk w F dv z D)(k:Kept S w w')(hS:∀ x∈F,x∉S):Dsk w' F dv z D:=fun hz=>by
 obtain⟨d,hd,hv⟩:=h hz;exact⟨d,hd,hv.kept k hS⟩
def rdw (D:Dk)(a z off er:Int):Int×List UInt8:=if off<0∨z≤off then(er,[])else D.read (a+off)
end Go.Proofs.YtjkmahmoclobmaaGreat.sc
namespace Go.Proofs.YtjkmahmoclobmaaGreat.sc
open Go.RowKit mem base disk owns
open record (Rc)
theorem wkheld {w0 W W':World}{q:Nat}{u v:Value}(h:Kept [q] w0 W∧W.cell? ⟨q,0,none⟩=some u∧W.cell? ⟨q,1,none⟩=some v)(hk:Kept [] W W'):Kept [q] w0 W'∧W'.cell? ⟨q,0,none⟩=some u∧W'.cell? ⟨q,1,none⟩=some v:=
 ⟨h.1.trans hk (by simp),hk.cell h.2.1 (by simp),hk.cell h.2.2 (by simp)⟩
def Told (w w':World)(e:Ending)(bs:List UInt8):Prop:=∃ A c,e= .returned (.slice A bs.length c)∧Fresh w w' A bs.length c bs∧w'.ownsRow w.heap.size 5 1 (.slice A bs.length c) bs.length (bs.map B)

theorem wread_out (q:Nat)(dv:Option Addr)(a z:Int)(p:Ps)(er:Int)(ov:Bool)(off:Int)(w:World)(hw:WkAt w q dv a z p er ov)(ho:off<0∨z≤off):
  Calls Tryz.prog 212 #[.pointer (some ⟨q,0,none⟩),.int .i64 off] w fun e w'=>Told w w' e []∧w'=w:=by
 obtain⟨c0,c1,c2⟩:=hw.seg
 by_cases h0:off<0
 ·go_enter Tryz.func212,Tryz.ntmps212;go_wp2;go_ret;exact⟨⟨none,0,rfl,Fresh.none _ _,World.ownsRow_nil _ _ _ _⟩,rfl⟩
 ·have h1:z≤off:=by omega
  go_enter Tryz.func212,Tryz.ntmps212;go_wp2;go_ret;exact⟨⟨none,0,rfl,Fresh.none _ _,World.ownsRow_nil _ _ _ _⟩,rfl⟩

theorem wread_in (F:List Nat)(d:Nat)(D:Dk)(q:Nat)(a z:Int)(p:Ps)(er:Int)(ov:Bool)(off:Int)(w:World)(hw:WkAt w q (some ⟨d,0,none⟩) a z p er ov)(hv:VD w F d D)(hq:q∉F)
  (ha:0≤a∧a≤100000) (hz:z≤100000) (ho:0≤off∧off<z):
  Calls Tryz.prog 212 #[.pointer (some ⟨q,0,none⟩),.int .i64 off] w fun e w'=>Told w w' e (D.read (a+off)).2∧WkAt w' q (some ⟨d,0,none⟩) a z p (D.read (a+off)).1 ov∧Kept [q] w w':=by
 obtain⟨c0,c1,c2⟩:=hw.seg
 have h0:¬off<0:=by omega
 have h1:¬z≤off:=by omega
 have hd0:decide (off<0)=false:=decide_eq_false h0;have hd1:decide (z≤off)=false:=decide_eq_false h1;have hsum:IntKind.i64.wrap (a+off)=a+off:=IntWalk.i64_in _ (by omega);have HK0:Hid (Kept [] w w.drew):=hide (Kept.refl [] w).drew;have HW:=hide hw;have HV:=hide hv;have HQ:=hide hq;have HST:=hide (show Kept [q] w w.drew∧w.drew.cell? ⟨q,0,none⟩=some (.pointer (some ⟨d,0,none⟩))∧w.drew.cell? ⟨q,1,none⟩=some (.int .i64 a)from⟨(Kept.refl [q] w).drew,c0,c1⟩);clear hw hv hq;go_enter Tryz.func212,Tryz.ntmps212;go_wp2;refine wp_region_noPanic ?_;refine wp_region_held_drew (S:=fun W=>Kept [q] w W∧W.cell? ⟨q,0,none⟩=some (.pointer (some ⟨d,0,none⟩))∧W.cell? ⟨q,1,none⟩=some (.int .i64 a)) (by kernel_rfl) (by exact HST.out) (fun hHeld=> ?_);refine tK 0 18 rfl ?_;refine tK 1 19 rfl ?_;refine tK 2 20 rfl ?_;refine tK 3 21 rfl ?_;refine tK 4 22 rfl ?_;refine tK 5 23 rfl ?_;refine tK 6 24 rfl ?_;refine tK 7 25 rfl ?_;refine tK 8 26 rfl ?_;refine tK 9 27 rfl ?_;refine tK 10 28 rfl ?_;refine tK 11 29 rfl ?_;refine tK 12 30 rfl ?_;refine hO 13 (some 31) rfl fun K hK=> ?_;go_simp;refine(read_own d F D (a+off) _ (HV.out.kept HK0.out (by simp))).mono ?_;rintro e w1 ⟨⟨A1,c1',rfl,hf,hown⟩,hk⟩;have HH1:=hide (wkheld hHeld hk);have HF1:=hide hf;have HO1:=hide hown;have HW1:=hide ((HW.out.kept HK0.out (by simp)).kept hk (by simp));have HK1:=hide (HK0.out.trans hk (by simp));have f8:=HW1.out.frozen 8;have z8:=HW1.out.rest.1;refine hK.out _ _ (by exact HH1.out) (fun hHeld=>tS ?_);clear hK K;refine tK 14 17 rfl ?_
 refine tK 15 32 rfl ?_;refine tK 16 33 rfl ?_;refine tK 17 5 rfl ?_;refine tK 18 34 rfl ?_;refine tK 19 35 rfl ?_;refine hO 20 none rfl fun K hK=> ?_;go_simp;have HW2:=hide (HW1.out.setErr (D.read (a+off)).1);have hks:=(Kept.refl [q] w1).set_ (b:=q) (.inl (by simp)) 8 (.int .i64 (D.read (a+off)).1);have HKS:=hide hks;have HO2:=hide (own_keep HO1.out hks (fun i hi hm=>by have h1:=(own_blk HO1.out i hm).1;have h2:=HW.out.lt;simp at hi;subst hi;simp at h1;omega));have HF2:=hide (HF1.out.kept hks (by have:=HW.out.lt;simp;omega));clear hks;refine hK.out _ _ (by exact⟨hHeld.1.set_ (.inl (by simp)) 8 _,HW2.out.seg.1,HW2.out.seg.2.1⟩) (fun hHeld=>tS ?_);clear hK K;refine wpAnyH_done (by kernel_rfl) ?_ _;refine NoPanic.normal ?_;go_wp2;go_ret;exact⟨⟨A1,c1',rfl,HF2.out,HO2.out⟩,HW2.out,(HK1.out.mono (S':=[q]) (by simp)).trans HKS.out (by simp)⟩
end Go.Proofs.YtjkmahmoclobmaaGreat.sc
namespace Go.Proofs.YtjkmahmoclobmaaGreat.sc
open Go.RowKit mem base disk owns
open record (Rc RcIn RcAt put5 put5_kept cell5 size_any decode_fars)
theorem own_vals {w:World}{base:Nat}{A:Option Addr}{n c:Nat}{bs:List UInt8}(h:w.ownsRow base 5 1 (.slice A n c) n (bs.map B))(S:List Nat)(hS:∀ i∈S,i<base):Vals w S A (bs.map B)∧bs.length=n∧n≤c∧(A=none→c=0):=by
 obtain⟨A',c',he,hc,hv⟩:=own_read h;injection he with h1 h2 h3;subst h1 h3;refine⟨hv S (fun i hi=> .inl (hS i hi)),by simpa using h.1,hc,fun hA=> ?_⟩;subst hA
 rcases h.2 with⟨h1,_⟩|⟨g,cap,cur,h1,_⟩
 ·injection h1 with _ _ h1
 ·injection h1 with h1;cases h1
theorem decode_nil:record.decode []=(Rc.zero,0,2):=record.decode_size _ (.inl (by simp))
theorem wrecord_out (q:Nat)(dv:Option Addr)(a z:Int)(p:Ps)(er:Int)(ov:Bool)(w:World)(hw:WkAt w q dv a z p er ov)(ho:p.o<0∨z≤p.o):
  Calls Tryz.prog 186 #[.pointer (some ⟨q,0,none⟩)] w fun e w'=>(∃ L A lc ac,e= .returned (.tuple #[.agg #[.int .i64 0,.int .i64 0,.int .i64 0,.slice L 0 lc,.slice A 0 ac],.int .i64 0,.bool false]))∧Kept [] w w':=by
 have hk0:=(Kept.refl [] w).alloc (.cells #[.int .i64 0,.int .i64 0,.int .i64 0,.slice none 0 0,.slice none 0 0] 111);have hb0:=Blk.new w 111 #[.int .i64 0,.int .i64 0,.int .i64 0,.slice none 0 0,.slice none 0 0];obtain⟨g,hg⟩:∃ g,w.heap.size=g:=⟨_,rfl⟩;rw[hg]at hb0;have HG:=hide (Nat.le_of_eq hg);have hw0:=hw.kept hk0 (by simp);have HW:=hide hw0;have HB0:=hide hb0;have HK0:=hide hk0
 have hqg:q<g:=by have:=hw.lt;omega
 have HO:=hide ho;obtain⟨c0,c1,c2⟩:=hw0.seg;obtain⟨p0,p1,p2,p3,p4⟩:=hw0.place;have r0:=hw0.rest.1;clear hw hk0 hb0 hw0 ho;go_enter Tryz.func186,Tryz.ntmps186;go_wp2_with fail;refine(wread_out q dv a z p er ov p.o _ HW.out HO.out).mono ?_;rintro e w1 ⟨⟨A1,n1,rfl,hf1,_⟩,rfl⟩;have HF1:=hide hf1;clear hf1;go_wp2_with fail;refine(size_any A1 0 n1 [] _ HF1.out.vals rfl (Nat.zero_le _) HF1.out.2.2.1).mono ?_;rintro e w2 ⟨rfl,hk2⟩;rw[size_nil];have HK2:=hide (HK0.out.trans hk2 (by simp));have HB2:=hide (hk2.blk HB0.out (by simp));have HW2:=hide (HW.out.kept hk2 (by simp));have HF2:=hide (HF1.out.kept hk2 (by simp));obtain⟨d0,d1,d2⟩:=HW2.out.seg;obtain⟨e0,e1,e2,e3,e4⟩:=HW2.out.place;have s0:=HW2.out.rest.1;clear hk2 HF1 HW HB0 HK0 c0 c1 c2 p0 p1 p2 p3 p4 r0;obtain⟨y,hy⟩:∃ y,IntKind.i64.wrap (z-p.o)=y:=⟨_,rfl⟩;obtain⟨t,ht⟩:∃ t,decide (y<0)=t:=⟨_,rfl⟩;cases t
 ·go_wp2
  go_quiet (fail)
  have HB3:=hide (HB2.out.drewN nq);have HK3:=hide (HK2.out.drewN nq);have HW3:=hide (HW2.out.kept ((Kept.refl [] w2).drewN nq) (by simp));have HF3:=hide (HF2.out.drewN nq);generalize w2.drewN nq=w3 at HB3 HK3 HW3 HF3 ⊢;have s3:=HW3.out.rest.1;clear d0 d1 d2 e0 e1 e2 e3 e4 s0 HW2 HB2 HK2 HF2;go_wp2
  go_loopw [5,7] (fun x k wr=>x= .slice A1 0 n1∧k= .int .i64 1∧wr=w3) (fun _ _ _=>0)
  case atStart=>exact⟨rfl,rfl,rfl⟩
  case round=>
   obtain⟨rfl,rfl,rfl⟩:=hrel;go_wp2_with fail;refine(decode_fars [] A1 0 n1 [] _ (by simp) HF3.out.vals rfl HF3.out.2.2.1 (by omega)).mono ?_;rintro e w4 ⟨L,m,lc,P,k,pc,rfl,hrc,hk4⟩;rw[decode_nil]at hrc ⊢;have HB4:=hide (hk4.blk HB3.out (by simp));have HK4:=hide (HK3.out.trans hk4 (by simp));obtain rfl:m=0:=hrc.hn.symm;obtain rfl:k=0:=hrc.hk.symm;clear hk4 hrc HB3 HK3 HW3 HF3 s3;simp only[Rc.zero];have hb5:=Blk.new w4 111 #[.int .i64 0,.int .i64 0,.int .i64 0,.slice L 0 lc,.slice P 0 pc];have hk5:=(Kept.refl [] w4).alloc (.cells #[.int .i64 0,.int .i64 0,.int .i64 0,.slice L 0 lc,.slice P 0 pc] 111);have HB5:=hide (hk5.blk HB4.out (by simp));have HK5:=hide (HK4.out.trans hk5 (by simp));obtain⟨s,hs⟩:∃ s,w4.heap.size=s:=⟨_,rfl⟩;rw[hs]at hb5;have HS5:=hide hb5;clear hb5 hk5 HB4 HK4;obtain⟨u0,u1,u2,u3,u4⟩:=cell5 HB5.out;obtain⟨v0,v1,v2,v3,v4⟩:=cell5 HS5.out;have f0:=HB5.out.frozen 0;have f1:=HB5.out.frozen 1;have f2:=HB5.out.frozen 2;have f3:=HB5.out.frozen 3;have f4:=HB5.out.frozen 4;have HBW:=hide (put5 (.int .i64 0) (.int .i64 0) (.int .i64 0) (.slice L 0 lc) (.slice P 0 pc) HB5.out);have HKW:=hide (put5_kept (g:=g) (S:=[]) (.int .i64 0) (.int .i64 0) (.int .i64 0) (.slice L 0 lc) (.slice P 0 pc) HK5.out (.inr HG.out));go_wp2;generalize ((((((w4.alloc (.cells #[.int .i64 0,.int .i64 0,.int .i64 0,.slice L 0 lc,.slice P 0 pc] 111)).setCell ⟨g,0,none⟩ (.int .i64 0)).setCell ⟨g,1,none⟩ (.int .i64 0)).setCell ⟨g,2,none⟩ (.int .i64 0)).setCell ⟨g,3,none⟩ (.slice L 0 lc)).setCell ⟨g,4,none⟩ (.slice P 0 pc))=W at HBW HKW ⊢
   obtain⟨t0,t1,t2,t3,t4⟩:=cell5 HBW.out;refine bodyPost_ret (v:= .tuple #[.agg #[.int .i64 0,.int .i64 0,.int .i64 0,.slice L 0 lc,.slice P 0 pc],.int .i64 0,.bool false]) ?_ rfl ⟨⟨L,P,lc,pc,rfl⟩,HKW.out⟩
   simp [results,Tryz.results186,go_sem,t0,t1,t2,t3,t4]
 ·go_wp2
  go_quiet (fail)
  have HB3:=hide (HB2.out.drewN nq);have HK3:=hide (HK2.out.drewN nq);generalize w2.drewN nq=w3 at HB3 HK3 ⊢;have f0:=HB3.out.frozen 0;have f1:=HB3.out.frozen 1;have f2:=HB3.out.frozen 2;have f3:=HB3.out.frozen 3;have f4:=HB3.out.frozen 4;obtain⟨u0,u1,u2,u3,u4⟩:=cell5 HB3.out;have HBW:=hide (put5 (.int .i64 0) (.int .i64 0) (.int .i64 0) (.slice none 0 0) (.slice none 0 0) HB3.out);have HKW:=hide (put5_kept (g:=g) (S:=[]) (.int .i64 0) (.int .i64 0) (.int .i64 0) (.slice none 0 0) (.slice none 0 0) HK3.out (.inr HG.out));go_wp2;generalize (((((w3.setCell ⟨g,0,none⟩ (.int .i64 0)).setCell ⟨g,1,none⟩ (.int .i64 0)).setCell ⟨g,2,none⟩ (.int .i64 0)).setCell ⟨g,3,none⟩ (.slice none 0 0)).setCell ⟨g,4,none⟩ (.slice none 0 0))=W at HBW HKW ⊢;obtain⟨t0,t1,t2,t3,t4⟩:=cell5 HBW.out;refine bodyPost_ret (v:= .tuple #[.agg #[.int .i64 0,.int .i64 0,.int .i64 0,.slice none 0 0,.slice none 0 0],.int .i64 0,.bool false]) ?_ rfl ⟨⟨none,none,0,0,rfl⟩,HKW.out⟩
  simp [results,Tryz.results186,go_sem,t0,t1,t2,t3,t4]
theorem size7 (bs:List UInt8):record.sizeOf bs≤7:=by
 unfold record.sizeOf
 split
 ·omega
 ·omega
theorem recW_in (D:Dk)(a z:Int)(p:Ps)(er:Int)(h1:1≤p.o)(h2:p.o<z)(n:Nat)(hn:record.sizeOf (D.read (a+p.o)).2=n)(hz:p.o+n≤z)(j:Nat)(hj:gat D (a+p.o) (max n 1)=gat D (a+p.o) j):
  recW D a z er p=((record.decode (gat D (a+p.o) j).1).1,(record.decode (gat D (a+p.o) j).1).2.1,decide ((record.decode (gat D (a+p.o) j).1).2.2=0),(gat D (a+p.o) j).2):=by
 unfold recW;rw[if_neg (by omega),hn,if_neg (by omega),hj]

theorem wrecord_in (Q F:List Nat)(d:Nat)(D:Dk)(q:Nat)(a z:Int)(p:Ps)(er:Int)(ov:Bool)(w:World)(hw:WkAt w q (some ⟨d,0,none⟩) a z p er ov)(hv:VD w F d D)(hq:q∉F)
  (ha:0≤a∧a≤10000) (hz:z≤1000) (ho:1≤p.o∧p.o<z) (hQ:∀ x∈Q,x<w.heap.size):
  Calls Tryz.prog 186 #[.pointer (some ⟨q,0,none⟩)] w fun e w'=>(∃ L n lc P k pc,e= .returned (.tuple #[.agg #[.int .i64 (recW D a z er p).1.m,.int .i64 (recW D a z er p).1.l,.int .i64 (recW D a z er p).1.p,.slice L n lc,.slice P k pc],.int .i64 (recW D a z er p).2.1,.bool (recW D a z er p).2.2.1])∧RcIn w' Q L n P k (recW D a z er p).1)∧
   WkAt w' q (some ⟨d,0,none⟩) a z p (recW D a z er p).2.2.2 ov∧Kept [q] w w':=by
 have hk0:=(Kept.refl [] w).alloc (.cells #[.int .i64 0,.int .i64 0,.int .i64 0,.slice none 0 0,.slice none 0 0] 111);have hb0:=Blk.new w 111 #[.int .i64 0,.int .i64 0,.int .i64 0,.slice none 0 0,.slice none 0 0];obtain⟨g,hg⟩:∃ g,w.heap.size=g:=⟨_,rfl⟩;rw[hg]at hb0;have HG:=hide (Nat.le_of_eq hg);have hw0:=hw.kept hk0 (by simp);have HD:=hide hv.1;have HV0:=hide (hv.kept hk0 (by simp));have HW:=hide hw0;have HB0:=hide hb0;have HK0:=hide hk0;have HQG:=hide (show q<g by have:=hw.lt;omega);have HQF:=hide hq;have HFL:Hid (∀ x∈F,x<g):=hide (fun x hx=>by have:=hv.lt x hx;omega);have HQ:=hide hQ;have HO:=hide ho;have HA:=hide ha;have ho1:=ho.1;have ho2:=ho.2;have hsub:IntKind.i64.wrap (z-p.o)=z-p.o:=IntWalk.i64_in _ (by omega);obtain⟨c0,c1,c2⟩:=hw0.seg;obtain⟨p0,p1,p2,p3,p4⟩:=hw0.place;clear hw hk0 hb0 hw0 ho hv hq hQ ha;go_enter Tryz.func186,Tryz.ntmps186;go_wp2_with fail;refine(wread_in F d D q a z p er ov p.o _ HW.out HV0.out HQF.out (by have:=HA.out;omega) (by omega) (by omega)).mono ?_;rintro e w1 ⟨⟨A1,n1,rfl,hf1,hown⟩,hw1,hk1⟩;have HF1:=hide hf1;have HO1:=hide hown;have HW1:=hide hw1;have HK1:=hide ((HK0.out.mono (S':=[q]) (by simp)).trans hk1 (by simp));have HB1:=hide (hk1.blk HB0.out (by have:=HQG.out;simp;omega));have HV1:=hide (HV0.out.kept hk1 (by have:=HQF.out;intro x hx hm;simp at hm;subst hm;exact this hx));have HBZ:=hide hk1.size;have hs0:g≤(w.alloc (.cells #[.int .i64 0,.int .i64 0,.int .i64 0,.slice none 0 0,.slice none 0 0] 111)).heap.size:=Nat.le_of_lt HB0.out.lt;have HB:=hide (show g<(w.alloc (.cells #[.int .i64 0,.int .i64 0,.int .i64 0,.slice none 0 0,.slice none 0 0] 111)).heap.size from HB0.out.lt)
 generalize (w.alloc (.cells #[.int .i64 0,.int .i64 0,.int .i64 0,.slice none 0 0,.slice none 0 0] 111)).heap.size=bz at HB HO1 HBZ;have HL:=hide (read_len64 D HD.out (a+p.o));have HNE:=hide (read_ne D (a+p.o));clear hf1 hown hw1 hk1 hs0 HW HB0 HK0 HV0 c0 c1 c2 p0 p1 p2 p3 p4;obtain⟨n,hn⟩:∃ n,record.sizeOf (D.read (a+p.o)).2=n:=⟨_,rfl⟩;have HN:=hide hn
 have hn7:n≤7:=by rw[←hn];exact size7 _
 clear hn;go_wp2_with fail;refine(size_any A1 (D.read (a+p.o)).2.length n1 (D.read (a+p.o)).2 _ HF1.out.vals rfl HF1.out.2.1 HF1.out.2.2.1).mono ?_;rintro e w2 ⟨rfl,hk2⟩;rw[HN.out];have HK2:=hide (HK1.out.trans hk2 (by simp));have HB2:=hide (hk2.blk HB1.out (by simp));have HW2:=hide (HW1.out.kept hk2 (by simp));have HV2:=hide (HV1.out.kept hk2 (by simp));have HO2:=hide (own_keep HO1.out hk2 (by simp));obtain⟨d0,d1,d2⟩:=HW2.out.seg;obtain⟨e0,e1,e2,e3,e4⟩:=HW2.out.place;have hbz2:bz≤w2.heap.size:=Nat.le_trans HBZ.out hk2.size;have HBZ2:=hide hbz2;clear hk2 HF1 HW1 HB1 HK1 HV1 HO1 hbz2
 by_cases hzz:z<p.o+n
 ·have ht:decide (z-p.o<(n:Int))=true:=decide_eq_true (by omega);have HRC:Hid (recW D a z er p=(Rc.zero,0,false,0)):=hide (by unfold recW;rw[if_neg (by omega),HN.out,if_pos hzz])
  have HE:Hid ((D.read (a+p.o)).1=0):=hide (by
   by_cases h0:(D.read (a+p.o)).1=0
   ·exact h0
   ·have h1:=HNE.out h0;have h2:=HN.out;rw[h1,size_nil]at h2
    omega)
  go_wp2
  go_quiet (fail)
  have HB3:=hide (HB2.out.drewN nq);have HK3:=hide (HK2.out.drewN nq);have HW3:=hide (HW2.out.kept ((Kept.refl [] w2).drewN nq) (by simp));generalize w2.drewN nq=w3 at HB3 HK3 HW3 ⊢;have f0:=HB3.out.frozen 0;have f1:=HB3.out.frozen 1;have f2:=HB3.out.frozen 2;have f3:=HB3.out.frozen 3;have f4:=HB3.out.frozen 4;obtain⟨u0,u1,u2,u3,u4⟩:=cell5 HB3.out;have HBW:=hide (put5 (.int .i64 0) (.int .i64 0) (.int .i64 0) (.slice none 0 0) (.slice none 0 0) HB3.out);have HKG:=hide (put5_kept (g:=g) (S:=[g]) (.int .i64 0) (.int .i64 0) (.int .i64 0) (.slice none 0 0) (.slice none 0 0) (Kept.refl [g] w3) (.inl (by simp)));go_wp2;generalize (((((w3.setCell ⟨g,0,none⟩ (.int .i64 0)).setCell ⟨g,1,none⟩ (.int .i64 0)).setCell ⟨g,2,none⟩ (.int .i64 0)).setCell ⟨g,3,none⟩ (.slice none 0 0)).setCell ⟨g,4,none⟩ (.slice none 0 0))=W at HBW HKG ⊢;obtain⟨t0,t1,t2,t3,t4⟩:=cell5 HBW.out;refine bodyPost_ret (v:= .tuple #[.agg #[.int .i64 0,.int .i64 0,.int .i64 0,.slice none 0 0,.slice none 0 0],.int .i64 0,.bool false]) ?_ rfl ?_
  ·simp [results,Tryz.results186,go_sem,t0,t1,t2,t3,t4]
  ·rw[HRC.out];exact⟨⟨none,0,0,none,0,0,rfl,RcIn.zero _ _ _ _⟩,by have:=HW3.out.kept HKG.out (by have:=HQG.out;simp;omega);rw[HE.out]at this;exact this,HK3.out.trans HKG.out (fun i hi=>by simp at hi;subst hi;exact .inr HG.out)⟩
 ·have ht:decide (z-p.o<(n:Int))=false:=decide_eq_false (by omega);have HNZ:=hide (show p.o+n≤z by omega)
  have hnz:(n:Int)≤z-p.o:=by omega
  clear hzz;go_wp2
  go_quiet (fail)
  have HB3:=hide (HB2.out.drewN nq);have HK3:=hide (HK2.out.drewN nq);have HW3:Hid (WkAt (w2.drewN nq) q (some ⟨d,0,none⟩) a z p (gat D (a+p.o) 1).2 ov):=hide (by rw[gat_one];exact HW2.out.kept ((Kept.refl [] w2).drewN nq) (by simp));have HV3:=hide (HV2.out.kept ((Kept.refl [] w2).drewN nq) (by simp));have HO3:Hid ((w2.drewN nq).ownsRow bz 5 1 (.slice A1 (gat D (a+p.o) 1).1.length n1) (gat D (a+p.o) 1).1.length ((gat D (a+p.o) 1).1.map B)):=hide (by rw[gat_one];exact own_keep HO2.out ((Kept.refl [] w2).drewN nq) (by simp));have HE1:Hid ((D.read (a+p.o)).2.length=(gat D (a+p.o) 1).1.length):=hide (by rw[gat_one]);have HBZ3:Hid (bz≤(w2.drewN nq).heap.size):=hide (Nat.le_trans HBZ2.out ((Kept.refl [] w2).drewN nq).size);generalize w2.drewN nq=w3 at HB3 HK3 HW3 HV3 HO3 HBZ3 ⊢;clear d0 d1 d2 e0 e1 e2 e3 e4 HW2 HB2 HK2 HV2 HO2 HL HNE ht hsub;rw[HE1.out];go_wp2
  go_loopw [5,7] (fun x k wr=>∃ (j:Nat) (Ar:Option Addr) (cr:Nat),1≤j∧j≤max n 1∧k= .int .i64 j∧x= .slice Ar (gat D (a+p.o) j).1.length cr∧Hid (wr.ownsRow bz 5 1 (.slice Ar (gat D (a+p.o) j).1.length cr) (gat D (a+p.o) j).1.length ((gat D (a+p.o) j).1.map B))∧Hid (WkAt wr q (some ⟨d,0,none⟩) a z p (gat D (a+p.o) j).2 ov)∧Hid (VD wr F d D)∧Hid (Blk wr g 111 #[.int .i64 0,.int .i64 0,.int .i64 0,.slice none 0 0,.slice none 0 0])∧Hid (Kept [q] w wr)∧Hid (bz≤wr.heap.size)) (fun x k wr=>n-(intOf k).toNat)
  case atStart=>exact⟨1,A1,n1,by omega,by omega,rfl,rfl,HO3,HW3,HV3,HB3,HK3,HBZ3⟩
  case round=>
   obtain⟨j,Ar,cr,hj1,hj2,rfl,rfl,HOr,HWr,HVr,HBr,HKr,HBZr⟩:=hrel;obtain⟨d0,d1,d2⟩:=HWr.out.seg;obtain⟨e0,e1,e2,e3,e4⟩:=HWr.out.place;have r8:=HWr.out.rest.1
   have hn1':n≤1∨max n 1=n:=by omega
   by_cases hlt:j<n
   ·by_cases hz0:(gat D (a+p.o) j).2=0
    ·rw[hz0]at r8;have hs4:=HKr.out.size;go_wp2_with fail;refine(wread_in F d D q a z p _ ov (p.o+j) _ HWr.out HVr.out HQF.out (by have:=HA.out;omega) (by omega) (by omega)).mono ?_;rintro e w4 ⟨⟨A4,n4,rfl,hf4,_⟩,hw4,hk4⟩;have hE4:=gat_on D (a+p.o) j hz0;rw[show a+(p.o+(j:Int))=a+p.o+(j:Int)by omega]at hf4 hw4 ⊢;have HE4:=hide hE4;have HW4:=hide hw4;have HV4:=hide (HVr.out.kept hk4 (by have:=HQF.out;intro x hx hm;simp at hm;subst hm;exact this hx));have HB4:=hide (hk4.blk HBr.out (by have:=HQG.out;simp;omega));have HK4:=hide (HKr.out.trans hk4 (by simp));have hO4:=own_keep HOr.out hk4 (fun i hi hm=>by have h1:=(own_blk HOr.out i hm).1;have h2:=HQG.out;have h3:=HB.out;simp at hi;subst hi;omega);have HOB:=hide (own_blk hO4);have hlen4:=read_len64 D HD.out (a+p.o+j)
     have hle4:(D.read (a+p.o+j)).2.length≤64:=by rw[hlen4];split<;>omega
     have hgl:=gat_le D HD.out (a+p.o) j;have hbz:bz≤w4.heap.size:=Nat.le_trans HBZr.out hk4.size;clear hw4 hk4 hE4 hlen4 d0 d1 d2 e0 e1 e2 e3 e4 r8 HWr HVr HBr HKr HOr hz0;go_wp2_with (at_builtin;refine wpList_append_vals rfl (.tmp 46) (.tmp 55) 41 rfl bz 5 (.int .u8 0) 1 1 Tryz.underlying41 info8 rfl (by omega) _ _ _ rfl hO4 [] A4 _ n4 ((D.read (a+p.o+j)).2.map B) rfl (by simp) hf4.vals (oneCell_B _) (by unfold maxLen;omega) (by omega) hbz ?_;intro v5 w5 hown5 hk5 hat5);obtain⟨A5,c5,rfl,_⟩:=base.own_slice hown5;have hfar:∀ i∈(Value.slice Ar (gat D (a+p.o) j).1.length cr).ownBlock.toList,bz≤i:=fun i hi=>(HOB.out i hi).1
     have hl5:(gat D (a+p.o) (j+1)).1.length=(gat D (a+p.o) j).1.length+(D.read (a+p.o+j)).2.length:=by rw[HE4.out,List.length_append]
     have HW5:Hid (WkAt w5 q (some ⟨d,0,none⟩) a z p (gat D (a+p.o) (j+1)).2 ov):=hide (by rw[HE4.out];exact HW4.out.kept hk5 (fun hm=>by have h1:=hfar _ hm;have h2:=HQG.out;have h3:=HB.out;omega));have HV5:=hide (HV4.out.kept hk5 (fun x hx hm=>by have h1:=hfar _ hm;have h2:=HFL.out x hx;have h3:=HB.out;omega));have HB5:=hide (hk5.blk HB4.out (fun hm=>by have h1:=hfar _ hm;have h3:=HB.out;omega));have HK5:=hide (HK4.out.trans hk5 (fun i hi=> .inr (by have h1:=hfar _ hi;have h3:=HB.out;have h4:=HG.out;omega)))
     have HO5:Hid (w5.ownsRow bz 5 1 (.slice A5 (gat D (a+p.o) (j+1)).1.length c5) (gat D (a+p.o) (j+1)).1.length ((gat D (a+p.o) (j+1)).1.map B)):=hide (by
      rw[hl5,HE4.out];dsimp only;rw[List.map_append]
      exact hown5)
     refine⟨⟨j+1,A5,c5,by omega,by omega,by go_num,by rw[hl5],HO5,HW5,HV5,HB5,HK5,hide (Nat.le_trans hbz hk5.size)⟩,by simp [intOf];omega⟩
    ·have HEND:Hid (gat D (a+p.o) (max n 1)=gat D (a+p.o) j):=hide (gat_stops D (a+p.o) j hz0 _ hj2);have r8':((gat D (a+p.o) j).2==0)=false:=beq_eq_false_iff_ne.2 hz0;obtain⟨hvs,hlen,hle,hnil⟩:=own_vals HOr.out [] (by simp);have HRC:=hide (recW_in D a z p er HO.out.1 HO.out.2 n HN.out HNZ.out j HEND.out);have hbl:=gat_le D HD.out (a+p.o) j;obtain⟨⟨R,sm,e2⟩,hd⟩:∃ x,record.decode (gat D (a+p.o) j).1=x:=⟨_,rfl⟩;rw[hd]at HRC;have HLE:=hide hle;have HNIL:=hide hnil;have HVS:=hide hvs;have HDE:=hide hd;obtain⟨bl,hbl2⟩:∃ bl,(gat D (a+p.o) j).1.length=bl:=⟨_,rfl⟩;rw[hbl2]at hbl HLE;have HBL:=hide hbl2;clear hvs hlen hle hnil hd;rw[hbl2];clear hbl2;go_wp2_with fail;refine(decode_fars (g::Q) Ar bl cr (gat D (a+p.o) j).1 _ (List.forall_mem_cons.2 ⟨HBr.out.lt,fun x hx=>by have h1:=HQ.out x hx;have h2:=HKr.out.size;omega⟩) HVS.out HBL.out HNIL.out (by omega)).mono ?_;rintro e w4 ⟨L,m,lc,P,k,pc,rfl,hrc,hk4⟩;rw[HDE.out]at hrc ⊢;have HB4:=hide (hk4.blk HBr.out (by simp));have HK4:=hide (HKr.out.trans hk4 (by simp));have HW4:=hide (HWr.out.kept hk4 (by simp));have hb5:=Blk.new w4 111 #[.int .i64 R.m,.int .i64 R.l,.int .i64 R.p,.slice L m lc,.slice P k pc];have hk5:=(Kept.refl [] w4).alloc (.cells #[.int .i64 R.m,.int .i64 R.l,.int .i64 R.p,.slice L m lc,.slice P k pc] 111);have HB5:=hide (hk5.blk HB4.out (by simp));have HK5:=hide (HK4.out.trans hk5 (by simp));have HW5:=hide (HW4.out.kept hk5 (by simp));have HR5:=hide (hrc.kept hk5 (by simp));obtain⟨s,hs⟩:∃ s,w4.heap.size=s:=⟨_,rfl⟩;rw[hs]at hb5
     have HS5:=hide hb5;clear hb5 hk5 HB4 HK4 HW4 hrc hk4 HWr HBr HKr HOr;obtain⟨u0,u1,u2,u3,u4⟩:=cell5 HB5.out;obtain⟨v0,v1,v2,v3,v4⟩:=cell5 HS5.out;have f0:=HB5.out.frozen 0;have f1:=HB5.out.frozen 1;have f2:=HB5.out.frozen 2;have f3:=HB5.out.frozen 3;have f4:=HB5.out.frozen 4;have HBW:=hide (put5 (.int .i64 R.m) (.int .i64 R.l) (.int .i64 R.p) (.slice L m lc) (.slice P k pc) HB5.out);have HKG:=hide (put5_kept (g:=g) (S:=[g]) (.int .i64 R.m) (.int .i64 R.l) (.int .i64 R.p) (.slice L m lc) (.slice P k pc) (Kept.refl [g] (w4.alloc (.cells #[.int .i64 R.m,.int .i64 R.l,.int .i64 R.p,.slice L m lc,.slice P k pc] 111))) (.inl (by simp)));obtain⟨t,ht⟩:∃ t,(e2==(0:Int))=t:=⟨_,rfl⟩;have HT:Hid (decide (e2=0)=t):=hide (by rw[←ht];exact(Bool.beq_eq_decide_eq e2 0).symm);go_wp2;generalize ((((((w4.alloc (.cells #[.int .i64 R.m,.int .i64 R.l,.int .i64 R.p,.slice L m lc,.slice P k pc] 111)).setCell ⟨g,0,none⟩ (.int .i64 R.m)).setCell ⟨g,1,none⟩ (.int .i64 R.l)).setCell ⟨g,2,none⟩ (.int .i64 R.p)).setCell ⟨g,3,none⟩ (.slice L m lc)).setCell ⟨g,4,none⟩ (.slice P k pc))=W at HBW HKG ⊢;obtain⟨t0,t1,t2,t3,t4⟩:=cell5 HBW.out;refine bodyPost_ret (v:= .tuple #[.agg #[.int .i64 R.m,.int .i64 R.l,.int .i64 R.p,.slice L m lc,.slice P k pc],.int .i64 sm,.bool t]) ?_ rfl ?_
     ·simp [results,Tryz.results186,go_sem,t0,t1,t2,t3,t4]
     ·rw[HRC.out];exact⟨⟨L,m,lc,P,k,pc,by rw[HT.out],(HR5.out.kept HKG.out (by simp)).less (fun i hi=>by simp [hi])⟩,HW5.out.kept HKG.out (by have:=HQG.out;simp;omega),HK5.out.trans HKG.out (fun i hi=>by simp at hi;subst hi;exact .inr HG.out)⟩
   ·have HEND:Hid (gat D (a+p.o) (max n 1)=gat D (a+p.o) j):=hide (by rw[show max n 1=j by omega]);obtain⟨hvs,hlen,hle,hnil⟩:=own_vals HOr.out [] (by simp);have HRC:=hide (recW_in D a z p er HO.out.1 HO.out.2 n HN.out HNZ.out j HEND.out);have hbl:=gat_le D HD.out (a+p.o) j;obtain⟨⟨R,sm,e2⟩,hd⟩:∃ x,record.decode (gat D (a+p.o) j).1=x:=⟨_,rfl⟩;rw[hd]at HRC;have HLE:=hide hle;have HNIL:=hide hnil;have HVS:=hide hvs;have HDE:=hide hd;obtain⟨bl,hbl2⟩:∃ bl,(gat D (a+p.o) j).1.length=bl:=⟨_,rfl⟩;rw[hbl2]at hbl HLE;have HBL:=hide hbl2;clear hvs hlen hle hnil hd;rw[hbl2];clear hbl2;go_wp2_with fail;refine(decode_fars (g::Q) Ar bl cr (gat D (a+p.o) j).1 _ (List.forall_mem_cons.2 ⟨HBr.out.lt,fun x hx=>by have h1:=HQ.out x hx;have h2:=HKr.out.size;omega⟩) HVS.out HBL.out HNIL.out (by omega)).mono ?_;rintro e w4 ⟨L,m,lc,P,k,pc,rfl,hrc,hk4⟩;rw[HDE.out]at hrc ⊢;have HB4:=hide (hk4.blk HBr.out (by simp));have HK4:=hide (HKr.out.trans hk4 (by simp));have HW4:=hide (HWr.out.kept hk4 (by simp));have hb5:=Blk.new w4 111 #[.int .i64 R.m,.int .i64 R.l,.int .i64 R.p,.slice L m lc,.slice P k pc];have hk5:=(Kept.refl [] w4).alloc (.cells #[.int .i64 R.m,.int .i64 R.l,.int .i64 R.p,.slice L m lc,.slice P k pc] 111);have HB5:=hide (hk5.blk HB4.out (by simp));have HK5:=hide (HK4.out.trans hk5 (by simp));have HW5:=hide (HW4.out.kept hk5 (by simp));have HR5:=hide (hrc.kept hk5 (by simp));obtain⟨s,hs⟩:∃ s,w4.heap.size=s:=⟨_,rfl⟩;rw[hs]at hb5;have HS5:=hide hb5;clear hb5 hk5 HB4 HK4 HW4 hrc hk4 HWr HBr HKr HOr
    obtain⟨u0,u1,u2,u3,u4⟩:=cell5 HB5.out;obtain⟨v0,v1,v2,v3,v4⟩:=cell5 HS5.out;have f0:=HB5.out.frozen 0;have f1:=HB5.out.frozen 1;have f2:=HB5.out.frozen 2;have f3:=HB5.out.frozen 3;have f4:=HB5.out.frozen 4;have HBW:=hide (put5 (.int .i64 R.m) (.int .i64 R.l) (.int .i64 R.p) (.slice L m lc) (.slice P k pc) HB5.out);have HKG:=hide (put5_kept (g:=g) (S:=[g]) (.int .i64 R.m) (.int .i64 R.l) (.int .i64 R.p) (.slice L m lc) (.slice P k pc) (Kept.refl [g] (w4.alloc (.cells #[.int .i64 R.m,.int .i64 R.l,.int .i64 R.p,.slice L m lc,.slice P k pc] 111))) (.inl (by simp)));obtain⟨t,ht⟩:∃ t,(e2==(0:Int))=t:=⟨_,rfl⟩;have HT:Hid (decide (e2=0)=t):=hide (by rw[←ht];exact(Bool.beq_eq_decide_eq e2 0).symm);go_wp2;generalize ((((((w4.alloc (.cells #[.int .i64 R.m,.int .i64 R.l,.int .i64 R.p,.slice L m lc,.slice P k pc] 111)).setCell ⟨g,0,none⟩ (.int .i64 R.m)).setCell ⟨g,1,none⟩ (.int .i64 R.l)).setCell ⟨g,2,none⟩ (.int .i64 R.p)).setCell ⟨g,3,none⟩ (.slice L m lc)).setCell ⟨g,4,none⟩ (.slice P k pc))=W at HBW HKG ⊢;obtain⟨t0,t1,t2,t3,t4⟩:=cell5 HBW.out;refine bodyPost_ret (v:= .tuple #[.agg #[.int .i64 R.m,.int .i64 R.l,.int .i64 R.p,.slice L m lc,.slice P k pc],.int .i64 sm,.bool t]) ?_ rfl ?_
    ·simp [results,Tryz.results186,go_sem,t0,t1,t2,t3,t4]
    ·rw[HRC.out];exact⟨⟨L,m,lc,P,k,pc,by rw[HT.out],(HR5.out.kept HKG.out (by simp)).less (fun i hi=>by simp [hi])⟩,HW5.out.kept HKG.out (by have:=HQG.out;simp;omega),HK5.out.trans HKG.out (fun i hi=>by simp at hi;subst hi;exact .inr HG.out)⟩
end Go.Proofs.YtjkmahmoclobmaaGreat.sc
namespace Go.Proofs.YtjkmahmoclobmaaGreat.sc
open Go.RowKit mem base disk owns
open record (Rc RcIn RcAt put5 put5_kept cell5 size_any decode_fars)
open item (It Items)
theorem wrecord_any (Q F:List Nat)(D:Dk)(q:Nat)(dv:Option Addr)(a z:Int)(p:Ps)(er:Int)(ov:Bool)(w:World)(hw:WkAt w q dv a z p er ov)(hv:Dsk w F dv z D)(hq:q∉F)
  (ha:0≤a∧a≤10000) (hz:0≤z∧z≤1000) (ho:p.o≠0) (hQ:∀ x∈Q,x<w.heap.size):
  Calls Tryz.prog 186 #[.pointer (some ⟨q,0,none⟩)] w fun e w'=>(∃ L n lc P k pc,e= .returned (.tuple #[.agg #[.int .i64 (recW D a z er p).1.m,.int .i64 (recW D a z er p).1.l,.int .i64 (recW D a z er p).1.p,.slice L n lc,.slice P k pc],.int .i64 (recW D a z er p).2.1,.bool (recW D a z er p).2.2.1])∧RcIn w' Q L n P k (recW D a z er p).1)∧
   WkAt w' q dv a z p (recW D a z er p).2.2.2 ov∧Kept [q] w w':=by
 by_cases h:1≤p.o∧p.o<z
 ·obtain⟨d,rfl,hd⟩:=hv (by omega);exact wrecord_in Q F d D q a z p er ov w hw hd hq ha hz.2 h hQ
 ·have e1:recW D a z er p=(Rc.zero,0,false,er):=by unfold recW;rw[if_pos (by omega)]
  rw[e1]
  exact(wrecord_out q dv a z p er ov w hw (by omega)).mono fun e w' ⟨⟨L,A,lc,ac,he⟩,hk⟩=>⟨⟨L,0,lc,A,0,ac,he,RcIn.zero _ _ _ _⟩,hw.kept hk (by simp),hk.mono (by simp)⟩

theorem follows_any (R:Rc)(p:Ps)(L A:Option Addr)(n c k d:Nat)(w:World):
  Calls Tryz.prog 187 #[.agg #[.int .i64 R.m,.int .i64 R.l,.int .i64 R.p,.slice L n c,.slice A k d],.agg #[.int .i64 p.s,.int .i64 p.o,.int .i64 p.l,.int .i64 p.v,.int .i64 p.m]] w fun e w'=>e= .returned (.bool (fits R p))∧Kept [] w w':=by
 have hk:=((Kept.refl [] w).alloc (.cells #[.int .i64 R.m,.int .i64 R.l,.int .i64 R.p,.slice L n c,.slice A k d] 111)).alloc (.cells #[.int .i64 p.s,.int .i64 p.o,.int .i64 p.l,.int .i64 p.v,.int .i64 p.m] 24);have HK:=hide hk;clear hk;obtain⟨m,l,v,its,bks⟩:=R;obtain⟨s,o,l2,v2,m2⟩:=p
 by_cases h1:l=l2
 ·have t1:(l==l2)=true:=beq_iff_eq.2 h1
  by_cases h2:v=v2
  ·have t2:(v==v2)=true:=beq_iff_eq.2 h2;have HE:Hid (fits ⟨m,l,v,its,bks⟩ ⟨s,o,l2,v2,m2⟩=decide (m2≤m)):=hide (by simp [fits,h1,h2]);clear h1 h2;go_enter Tryz.func187,Tryz.ntmps187;go_wp2;go_ret;exact⟨by rw[HE.out];rfl,HK.out⟩
  ·have t2:(v==v2)=false:=beq_eq_false_iff_ne.2 h2;have HE:Hid (fits ⟨m,l,v,its,bks⟩ ⟨s,o,l2,v2,m2⟩=false):=hide (by simp [fits,h2]);clear h1 h2;go_enter Tryz.func187,Tryz.ntmps187;go_wp2;go_ret;exact⟨by rw[HE.out];rfl,HK.out⟩
 ·have t1:(l==l2)=false:=beq_eq_false_iff_ne.2 h1;have HE:Hid (fits ⟨m,l,v,its,bks⟩ ⟨s,o,l2,v2,m2⟩=false):=hide (by simp [fits,h1]);clear h1;go_enter Tryz.func187,Tryz.ntmps187;go_wp2;go_ret;exact⟨by rw[HE.out];rfl,HK.out⟩

theorem isNext_any (i:It)(w:World):
  Calls Tryz.prog 189 #[i.val] w fun e w'=>e= .returned (.bool (decide (i.k=7)))∧Kept [] w w':=by
 have hk:=(Kept.refl [] w).alloc (.cells i.cells 84);have HK:=hide hk;clear hk;obtain⟨k,b,c,v⟩:=i;obtain⟨t,ht⟩:∃ t,(k==(7:Int))=t:=⟨_,rfl⟩;have HT:Hid (decide (k=7)=t):=hide (by rw[←ht];exact(Bool.beq_eq_decide_eq k 7).symm);unfold item.It.val;go_enter Tryz.func189,Tryz.ntmps189;go_wp2;go_ret;exact⟨by rw[HT.out];rfl,HK.out⟩

theorem index_any (L:Option Addr)(n c:Nat)(l:List It)(w:World)(hv:Items w [] L l)(hl:l.length=n)(hn:n≤1000):
  Calls Tryz.prog 217 #[.slice L n c,.func (.func 189) #[] #[]] w fun e w'=>∃ k:Int,e= .returned (.int .i64 k)∧decide (0≤k)=(l.any fun i=>decide (i.k=7))∧Kept [] w w':=by
 have HV:=hide hv;have HL:=hide hl;clear hv hl;go_enter Tryz.func217,Tryz.ntmps217;go_wp2
 go_loopw [8] (fun i wr=>∃ k:Nat,k≤n∧i= .int .i64 k∧Hid (((l.take k).any fun i=>decide (i.k=7))=false)∧Hid (Kept [] w wr)) (fun i wr=>n-(intOf i).toNat)
 case atStart=>exact⟨0,by omega,rfl,hide rfl,hide (Kept.refl _ _)⟩
 case round=>
  obtain⟨k,hk,rfl,HM1,HK1⟩:=hrel
  by_cases hlt:k<n
  ·obtain⟨i,hi⟩:∃ i,l[k]? = some i:=⟨_,List.getElem?_eq_getElem (by rw[HL.out];exact hlt)⟩;obtain⟨ad,rfl,_,c0,c1,c2,c3⟩:=(HV.out.kept HK1.out (by simp)).at_ hi;have HI:=hide hi;clear hi;go_wp2_with fail;refine(isNext_any i _).mono ?_;rintro e w2 ⟨rfl,hk2⟩;have HK2:=hide (HK1.out.trans hk2 (by simp));clear hk2 c0 c1 c2 c3
   by_cases hm:i.k=7
   ·have HE:Hid ((l.any fun i=>decide (i.k=7))=true):=hide (List.any_eq_true.2 ⟨i,List.mem_of_getElem? HI.out,decide_eq_true hm⟩);rw[decide_eq_true hm];clear hm;go_wp2;go_ret;exact⟨(k:Int),rfl,by rw[HE.out];exact decide_eq_true (by omega),HK2.out⟩
   ·rw[decide_eq_false hm]
    have HM2:Hid (((l.take (k+1)).any fun i=>decide (i.k=7))=false):=hide (by
     rw[List.take_add_one,HI.out,List.any_append,HM1.out]
     simp [hm])
    clear hm;go_wp2;go_roundw
    case rel=>exact⟨k+1,by omega,by go_num,HM2,HK2⟩
    case measure=>simp [intOf];omega
  ·obtain rfl:k=n:=by omega
   have HE:Hid ((l.any fun i=>decide (i.k=7))=false):=hide (by
    have:=HM1.out
    rwa [List.take_of_length_le (by rw[HL.out];exact Nat.le_refl _)]at this)
   go_wp2;go_ret;exact⟨-1,rfl,by rw[HE.out];rfl,HK1.out⟩

theorem contains_any (L:Option Addr)(n c:Nat)(l:List It)(w:World)(hv:Items w [] L l)(hl:l.length=n)(hn:n≤1000):
  Calls Tryz.prog 188 #[.slice L n c,.func (.func 189) #[] #[]] w fun e w'=>e= .returned (.bool (l.any fun i=>decide (i.k=7)))∧Kept [] w w':=by
 have HV:=hide hv;have HL:=hide hl;clear hv hl;go_enter Tryz.func188,Tryz.ntmps188;go_wp2_with fail;refine(index_any L n c l _ HV.out HL.out hn).mono ?_;rintro e w1 ⟨k,rfl,he,hk⟩;have HE:=hide he;have HK:=hide hk;clear he hk;go_wp2;go_ret;exact⟨by rw[←HE.out];rfl,HK.out⟩
end Go.Proofs.YtjkmahmoclobmaaGreat.sc
namespace Go.Proofs.YtjkmahmoclobmaaGreat.sc
open Go.RowKit mem base disk owns
open record (Rc RcIn RcAt put5 put5_kept cell5 size_any decode_fars)
open item (It Items)
theorem held10 {w0 W W':World}{a1 a2 a3 a4 a5 a6 a7 a8 a9 a10:Addr}{v1 v2 v3 v4 v5 v6 v7 v8 v9 v10:Value}
  (h:Kept [] w0 W∧W.cell? a1=some v1∧W.cell? a2=some v2∧W.cell? a3=some v3∧W.cell? a4=some v4∧W.cell? a5=some v5∧W.cell? a6=some v6∧W.cell? a7=some v7∧W.cell? a8=some v8∧W.cell? a9=some v9∧W.cell? a10=some v10) (hk:Kept [] W W'):
  Kept [] w0 W'∧W'.cell? a1=some v1∧W'.cell? a2=some v2∧W'.cell? a3=some v3∧W'.cell? a4=some v4∧W'.cell? a5=some v5∧W'.cell? a6=some v6∧W'.cell? a7=some v7∧W'.cell? a8=some v8∧W'.cell? a9=some v9∧W'.cell? a10=some v10:=by
 obtain⟨h0,h1,h2,h3,h4,h5,h6,h7,h8,h9,h10⟩:=h;exact⟨h0.trans hk (by simp),hk.cell h1 (by simp),hk.cell h2 (by simp),hk.cell h3 (by simp),hk.cell h4 (by simp),hk.cell h5 (by simp),hk.cell h6 (by simp),hk.cell h7 (by simp),hk.cell h8 (by simp),hk.cell h9 (by simp),hk.cell h10 (by simp)⟩

theorem _root_.Go.Proofs.YtjkmahmoclobmaaGreat.mem.Blk.kept' {w w':World}{g:Nat}{t:TypeId}{cs:Array Value}(h:Blk w g t cs)(k:Kept [] w w'):Blk w' g t cs:=k.blk h (by simp)
def NextOut (w':World)(e:Ending)(Q:List Nat)(D:Dk)(q:Nat)(dv:Option Addr)(a z:Int)(p:Ps):Prop:=
 (∃ R s L n lc P k pc,follow D a z p=(some (R,s),0)∧e= .returned (.tuple #[.agg #[.int .i64 R.m,.int .i64 R.l,.int .i64 R.p,.slice L n lc,.slice P k pc],.bool true])∧RcIn w' Q L n P k R∧WkAt w' q dv a z (behind p R s) 0 (hasNext R))∨
 (∃ e2,follow D a z p=(none,e2)∧e= .returned (.tuple #[.agg #[.int .i64 0,.int .i64 0,.int .i64 0,.slice none 0 0,.slice none 0 0],.bool false])∧WkAt w' q dv a z p e2 false)

theorem wnext_over (q:Nat)(dv:Option Addr)(a z:Int)(p:Ps)(er:Int)(w:World)(hw:WkAt w q dv a z p er true):
  Calls Tryz.prog 150 #[.pointer (some ⟨q,0,none⟩)] w fun e w'=>e= .returned (.tuple #[.agg #[.int .i64 0,.int .i64 0,.int .i64 0,.slice none 0 0,.slice none 0 0],.bool false])∧Kept [] w w':=by
 have hk0:=(Kept.refl [] w).alloc (.cells #[.int .i64 0,.int .i64 0,.int .i64 0,.slice none 0 0,.slice none 0 0] 111);have hb0:=Blk.new w 111 #[.int .i64 0,.int .i64 0,.int .i64 0,.slice none 0 0,.slice none 0 0];obtain⟨g,hg⟩:∃ g,w.heap.size=g:=⟨_,rfl⟩;rw[hg]at hb0;have HG:=hide (Nat.le_of_eq hg);have hw0:=hw.kept hk0 (by simp);have HB0:=hide hb0;have HK0:=hide hk0;have r9:=hw0.rest.2;clear hw hk0 hb0 hw0;go_enter Tryz.func150,Tryz.ntmps150;obtain⟨w1,hw1⟩:∃ w1,w.alloc (.cells #[.int .i64 0,.int .i64 0,.int .i64 0,.slice none 0 0,.slice none 0 0] 111)=w1:=⟨_,rfl⟩;rw[hw1]at HB0 HK0 r9;have f0:=HB0.out.frozen 0;have f1:=HB0.out.frozen 1;have f2:=HB0.out.frozen 2;have f3:=HB0.out.frozen 3;have f4:=HB0.out.frozen 4;obtain⟨u0,u1,u2,u3,u4⟩:=cell5 HB0.out;have HBW:=hide (put5 (.int .i64 0) (.int .i64 0) (.int .i64 0) (.slice none 0 0) (.slice none 0 0) HB0.out);have HKG:=hide (put5_kept (g:=g) (S:=[g]) (.int .i64 0) (.int .i64 0) (.int .i64 0) (.slice none 0 0) (.slice none 0 0) (Kept.refl [g] w1) (.inl (by simp)));go_wp2;generalize (((((World.setCell w1 ⟨g,0,none⟩ (.int .i64 0)).setCell ⟨g,1,none⟩ (.int .i64 0)).setCell ⟨g,2,none⟩ (.int .i64 0)).setCell ⟨g,3,none⟩ (.slice none 0 0)).setCell ⟨g,4,none⟩ (.slice none 0 0))=W at HBW HKG ⊢;obtain⟨t0,t1,t2,t3,t4⟩:=cell5 HBW.out;refine bodyPost_ret (v:= .tuple #[.agg #[.int .i64 0,.int .i64 0,.int .i64 0,.slice none 0 0,.slice none 0 0],.bool false]) ?_ rfl ?_
 ·simp [results,Tryz.results150,go_sem,t0,t1,t2,t3,t4]
 ·exact⟨rfl,HK0.out.trans HKG.out (fun i hi=>by simp at hi;subst hi;exact .inr HG.out)⟩
theorem wnext_any (Q F:List Nat)(D:Dk)(hD:D.ok)(q:Nat)(dv:Option Addr)(a z:Int)(p:Ps)(w:World)(hw:WkAt w q dv a z p 0 false)(hv:Dsk w F dv z D)(hq:q∉F)
  (ha:0≤a∧a≤10000) (hz:0≤z∧z≤1000) (ho:p.o≠0) (hQ:∀ x∈Q,x<w.heap.size):
  Calls Tryz.prog 150 #[.pointer (some ⟨q,0,none⟩)] w fun e w'=>
   NextOut w' e Q D q dv a z p∧Kept [q] w w':=by
 have hk0:=(Kept.refl [] w).alloc (.cells #[.int .i64 0,.int .i64 0,.int .i64 0,.slice none 0 0,.slice none 0 0] 111);have hb0:=Blk.new w 111 #[.int .i64 0,.int .i64 0,.int .i64 0,.slice none 0 0,.slice none 0 0];obtain⟨g,hg⟩:∃ g,w.heap.size=g:=⟨_,rfl⟩;rw[hg]at hb0;have HG:=hide (Nat.le_of_eq hg);have hw0:=hw.kept hk0 (by simp);have HW:=hide hw0;have HB0:=hide hb0;have HK0:=hide hk0;have HV0:=hide (hv.kept hk0 (by simp));have HQG:=hide (show q<g by have:=hw.lt;omega);have HQF:=hide hq;have HQ:=hide hQ;have HA:=hide ha;have HZ:=hide hz;have HD:=hide hD;have HO:=sealed ho;have HF:=sealed (follow_recW D hD a z p);have r9:=hw0.rest.2;have hz1:=hz.1;have hz2:=hz.2;clear hw hk0 hb0 hw0 ho hv hq hQ ha hD hz;go_enter Tryz.func150,Tryz.ntmps150;go_wp2_with fail;refine(wrecord_any (g::q::Q) F D q dv a z p 0 false _ HW.out HV0.out HQF.out HA.out HZ.out HO.out (List.forall_mem_cons.2 ⟨HB0.out.lt,List.forall_mem_cons.2 ⟨HW.out.lt,fun x hx=>by have h1:=HQ.out x hx;have h2:=HK0.out.size;omega⟩⟩)).mono ?_;rintro e w1 ⟨⟨L,n,lc,P,k,pc,rfl,hrc⟩,hw1,hk1⟩;obtain⟨⟨R,sm,ok,e2⟩,hrw⟩:∃ x,recW D a z 0 p=x:=⟨_,rfl⟩;rw[hrw]at hrc hw1 HF ⊢;clear hrw;have hb2:=Blk.new w1 111 #[.int .i64 R.m,.int .i64 R.l,.int .i64 R.p,.slice L n lc,.slice P k pc];have hk2:=(Kept.refl [] w1).alloc (.cells #[.int .i64 R.m,.int .i64 R.l,.int .i64 R.p,.slice L n lc,.slice P k pc] 111);have hb1:=hk1.blk HB0.out (by have:=HQG.out;simp;omega);have HB2:=hide (hk2.blk hb1 (by simp));have HK2:=hide (((HK0.out.mono (S':=[q]) (by simp)).trans hk1 (by simp)).trans hk2 (by simp))
 have HW2:=hide (hw1.kept hk2 (by simp));have HR2:=hide (hrc.kept hk2 (by simp));have hgl:=hb1.lt;obtain⟨r,hr⟩:∃ r,w1.heap.size=r:=⟨_,rfl⟩;rw[hr]at hb2 hgl;have HGL:=hide hgl;have HS2:=hide hb2;obtain⟨w2,hw2⟩:∃ w2,w1.alloc (.cells #[.int .i64 R.m,.int .i64 R.l,.int .i64 R.p,.slice L n lc,.slice P k pc] 111)=w2:=⟨_,rfl⟩;rw[hw2]at HB2 HK2 HW2 HR2 hb2;have HS2:=hide hb2;clear hb2 hk2 hk1 hw1 hrc r9 HW HB0 HK0 HV0 hb1 hgl
 cases ok with
 | false=>
  have HFN:Fo D a z p none e2:=Fo.mk (HF.out.elim (fun h=>Bool.noConfusion h.1) (fun h=>h.2));go_wp2;refine wp_region_noPanic ?_;refine wp_region_held_drew (S:=fun _=>True) (by kernel_rfl) (by trivial) (fun hHeld=> ?_);refine tK 0 18 rfl ?_;refine tK 1 19 rfl ?_;refine tK 2 20 rfl ?_;refine tU 3 21 rfl ?_;refine tU 4 22 rfl ?_;refine tU 5 23 rfl ?_;refine tU 6 24 rfl ?_;refine tU 7 25 rfl ?_;refine tU 8 26 rfl ?_;refine tU 9 27 rfl ?_;refine tK 10 28 rfl ?_;refine wpAnyH_done (by kernel_rfl) ?_ _;refine NoPanic.normal ?_;have HB3:=hide (HB2.out.drew);have HW3:=hide (HW2.out.kept (Kept.refl [] w2).drew (by simp));have HK3:=hide (HK2.out.drew);generalize w2.drew=w3 at HB3 HW3 HK3 ⊢;have f0:=HB3.out.frozen 0;have f1:=HB3.out.frozen 1;have f2:=HB3.out.frozen 2;have f3:=HB3.out.frozen 3;have f4:=HB3.out.frozen 4;obtain⟨u0,u1,u2,u3,u4⟩:=cell5 HB3.out;have HBW:=hide (put5 (.int .i64 0) (.int .i64 0) (.int .i64 0) (.slice none 0 0) (.slice none 0 0) HB3.out);have HKG:=hide (put5_kept (g:=g) (S:=[g]) (.int .i64 0) (.int .i64 0) (.int .i64 0) (.slice none 0 0) (.slice none 0 0) (Kept.refl [g] w3) (.inl (by simp)));go_wp2;generalize (((((World.setCell w3 ⟨g,0,none⟩ (.int .i64 0)).setCell ⟨g,1,none⟩ (.int .i64 0)).setCell ⟨g,2,none⟩ (.int .i64 0)).setCell ⟨g,3,none⟩ (.slice none 0 0)).setCell ⟨g,4,none⟩ (.slice none 0 0))=W at HBW HKG ⊢;obtain⟨t0,t1,t2,t3,t4⟩:=cell5 HBW.out;refine bodyPost_ret (v:= .tuple #[.agg #[.int .i64 0,.int .i64 0,.int .i64 0,.slice none 0 0,.slice none 0 0],.bool false]) ?_ rfl ?_
  ·simp [results,Tryz.results150,go_sem,t0,t1,t2,t3,t4]
  ·exact⟨.inr ⟨e2,HFN.eq,rfl,HW3.out.kept HKG.out (by have:=HQG.out;simp;omega)⟩,HK3.out.trans HKG.out (fun i hi=>by simp at hi;subst hi;exact .inr HG.out)⟩
 | true=>
  obtain⟨s0,s1,s2,s3,s4⟩:=cell5 HS2.out;obtain⟨p0,p1,p2,p3,p4⟩:=HW2.out.place;have HST:=hide (show Kept [] w2 w2.drew∧w2.drew.cell? ⟨r,0,none⟩=some (.int .i64 R.m)∧w2.drew.cell? ⟨r,1,none⟩=some (.int .i64 R.l)∧w2.drew.cell? ⟨r,2,none⟩=some (.int .i64 R.p)∧w2.drew.cell? ⟨r,3,none⟩=some (.slice L n lc)∧w2.drew.cell? ⟨r,4,none⟩=some (.slice P k pc)∧w2.drew.cell? ⟨q,3,none⟩=some (.int .i64 p.s)∧w2.drew.cell? ⟨q,4,none⟩=some (.int .i64 p.o)∧w2.drew.cell? ⟨q,5,none⟩=some (.int .i64 p.l)∧w2.drew.cell? ⟨q,6,none⟩=some (.int .i64 p.v)∧w2.drew.cell? ⟨q,7,none⟩=some (.int .i64 p.m)from⟨(Kept.refl [] w2).drew,s0,s1,s2,s3,s4,p0,p1,p2,p3,p4⟩);clear s0 s1 s2 s3 s4 p0 p1 p2 p3 p4;obtain⟨t,ht⟩:∃ t,fits R p=t:=⟨_,rfl⟩;rw[ht]at HF;have HT:=sealed ht;clear ht;go_wp2;refine wp_region_noPanic ?_;refine wp_region_held_drew (S:=fun W=>Kept [] w2 W∧W.cell? ⟨r,0,none⟩=some (.int .i64 R.m)∧W.cell? ⟨r,1,none⟩=some (.int .i64 R.l)∧W.cell? ⟨r,2,none⟩=some (.int .i64 R.p)∧W.cell? ⟨r,3,none⟩=some (.slice L n lc)∧W.cell? ⟨r,4,none⟩=some (.slice P k pc)∧W.cell? ⟨q,3,none⟩=some (.int .i64 p.s)∧W.cell? ⟨q,4,none⟩=some (.int .i64 p.o)∧W.cell? ⟨q,5,none⟩=some (.int .i64 p.l)∧W.cell? ⟨q,6,none⟩=some (.int .i64 p.v)∧W.cell? ⟨q,7,none⟩=some (.int .i64 p.m)) (by kernel_rfl) (by exact HST.out) (fun hHeld=> ?_);refine tK 0 18 rfl ?_;refine tK 1 19 rfl ?_;refine tK 2 20 rfl ?_;refine tK 3 21 rfl ?_;refine tK 4 22 rfl ?_;refine tK 5 23 rfl ?_;refine tK 6 24 rfl ?_;refine tK 7 25 rfl ?_;refine hO 8 (some 26) rfl fun K hK=> ?_
  go_simp;refine(follows_any R p L P n lc k pc _).mono ?_;rintro e w3 ⟨rfl,hk3⟩;rw[HT.out];have HH3:=hide (held10 hHeld hk3);refine hK.out _ _ (by exact HH3.out) (fun hHeld=>tS ?_);clear hK K;refine tK 9 27 rfl ?_;refine tK 10 28 rfl ?_;refine wpAnyH_done (by kernel_rfl) ?_ _;refine NoPanic.normal ?_;have HK3:=hide hHeld.1;clear hHeld;have HB3:=hide (HB2.out.kept' HK3.out);have HW3:=hide (HW2.out.kept HK3.out (by simp));have HS3:=hide (HS2.out.kept' HK3.out);have HR3:=hide (HR2.out.kept HK3.out (by simp));have HKK3:=hide (HK2.out.trans HK3.out (by simp));clear HB2 HW2 HS2 HR2 HK2 HK3 HH3 HST
  cases t with
  | false=>
   have HFN:Fo D a z p none e2:=Fo.mk (HF.out.elim (fun h=>Bool.noConfusion h.2.1) (fun h=>h.2));have f0:=HB3.out.frozen 0;have f1:=HB3.out.frozen 1;have f2:=HB3.out.frozen 2;have f3:=HB3.out.frozen 3;have f4:=HB3.out.frozen 4;obtain⟨u0,u1,u2,u3,u4⟩:=cell5 HB3.out;have HBW:=hide (put5 (.int .i64 0) (.int .i64 0) (.int .i64 0) (.slice none 0 0) (.slice none 0 0) HB3.out);have HKG:=hide (put5_kept (g:=g) (S:=[g]) (.int .i64 0) (.int .i64 0) (.int .i64 0) (.slice none 0 0) (.slice none 0 0) (Kept.refl [g] w3) (.inl (by simp)));go_wp2;generalize (((((World.setCell w3 ⟨g,0,none⟩ (.int .i64 0)).setCell ⟨g,1,none⟩ (.int .i64 0)).setCell ⟨g,2,none⟩ (.int .i64 0)).setCell ⟨g,3,none⟩ (.slice none 0 0)).setCell ⟨g,4,none⟩ (.slice none 0 0))=W at HBW HKG ⊢;obtain⟨t0,t1,t2,t3,t4⟩:=cell5 HBW.out;refine bodyPost_ret (v:= .tuple #[.agg #[.int .i64 0,.int .i64 0,.int .i64 0,.slice none 0 0,.slice none 0 0],.bool false]) ?_ rfl ?_
   ·simp [results,Tryz.results150,go_sem,t0,t1,t2,t3,t4]
   ·exact⟨.inr ⟨e2,HFN.eq,rfl,HW3.out.kept HKG.out (by have:=HQG.out;simp;omega)⟩,HKK3.out.trans HKG.out (fun i hi=>by simp at hi;subst hi;exact .inr HG.out)⟩
  | true=>
   have hff:follow D a z p=(some (R,sm),0)∧e2=0:=HF.out.elim (fun h=>h.2.2) (fun h=>h.1.elim (fun h1=>Bool.noConfusion h1) (fun h1=>Bool.noConfusion h1));obtain⟨hff,rfl⟩:=hff;obtain⟨hok,hsm1,hsm2,hfit,hlz⟩:=follow_ok HD.out hff;clear hsm1 hsm2;have hin:=follow_in hff;have HFF:=Fo.mk hff;have hlen:record.lenOf R=lenOf R:=if_pos (R.may_iff.2 hok)
   have hn6:n≤6:=by rw[←HR3.out.hn];exact hok.2.2.2.1.2
   have hl1:1≤R.l∧R.l≤2147483647:=hok.2.1
   have hpl:R.l=p.l:=by
    unfold fits at hfit;rw[Bool.and_eq_true]at hfit;exact of_decide_eq_true hfit.1
   obtain⟨m,hm⟩:∃ m:Nat,record.lenOf R=m:=⟨_,rfl⟩;rw[←hlen,hm]at hlz
   have hbe:behind p R sm=⟨p.s,p.o+m,R.l+1,sm,R.m⟩:=by unfold behind;rw[←hlen,hm,hpl]
   have HBE:=hide hbe;have HM:=hide hm;have g1:IntKind.i64.wrap (p.o+(m:Int))=p.o+m:=IntWalk.i64_in _ (by omega);have g2:IntKind.i64.wrap (R.l+1)=R.l+1:=IntWalk.i64_in _ (by omega);clear hff hok hfit hbe hlen hpl hm;obtain⟨s0,s1,s2,s3,s4⟩:=cell5 HS3.out;go_wp2_with fail;refine(contains_any L n lc R.its _ HR3.out.at_.its HR3.out.hn (by omega)).mono ?_;rintro e w4 ⟨rfl,hk4⟩;have HB4:=hide (HB3.out.kept' hk4);have HW4:=hide (HW3.out.kept hk4 (by simp));have HS4:=hide (HS3.out.kept' hk4);have HR4:=hide (HR3.out.kept hk4 (by simp));have HK4:=hide (HKK3.out.trans hk4 (by simp));have f9:=HW4.out.frozen 9;have z9:=HW4.out.rest.2;obtain⟨nx,hnx⟩:∃ nx,(R.its.any fun i=>decide (i.k=7))=nx:=⟨_,rfl⟩;rw[hnx];have HNX:Hid (hasNext R=nx):=hide hnx;clear hk4 s0 s1 s2 s3 s4 HB3 HW3 HS3 HR3 HKK3 hnx;have HW5:=hide (HW4.out.setOver nx);have hks:=(Kept.refl [q] w4).set_ (b:=q) (.inl (by simp)) 9 (.bool nx);have HB5:=hide (hks.blk HB4.out (by have:=HQG.out;simp;omega));have HS5:=hide (hks.blk HS4.out (by have:=HQG.out;have:=HGL.out;simp;omega));have HR5:=hide (HR4.out.kept hks (by simp));have HK5:=hide (HK4.out.trans hks (by simp));clear hks;go_wp2;generalize w4.setCell ⟨q,9,none⟩ (.bool nx)=w5 at HW5 HB5 HS5 HR5 HK5 ⊢;clear HW4 HB4 HS4 HR4 HK4 f9 z9;obtain⟨s0,s1,s2,s3,s4⟩:=cell5 HS5.out;obtain⟨p0,p1,p2,p3,p4⟩:=HW5.out.place;have HST:=hide (show Kept [q] w5 w5.drew∧w5.drew.cell? ⟨r,0,none⟩=some (.int .i64 R.m)∧w5.drew.cell? ⟨r,1,none⟩=some (.int .i64 R.l)∧w5.drew.cell? ⟨r,2,none⟩=some (.int .i64 R.p)∧w5.drew.cell? ⟨r,3,none⟩=some (.slice L n lc)∧w5.drew.cell? ⟨r,4,none⟩=some (.slice P k pc)∧w5.drew.cell? ⟨q,3,none⟩=some (.int .i64 p.s)∧w5.drew.cell? ⟨q,4,none⟩=some (.int .i64 p.o)∧w5.drew.cell? ⟨q,5,none⟩=some (.int .i64 p.l)∧w5.drew.cell? ⟨q,6,none⟩=some (.int .i64 p.v)∧w5.drew.cell? ⟨q,7,none⟩=some (.int .i64 p.m)from⟨(Kept.refl [q] w5).drew,s0,s1,s2,s3,s4,p0,p1,p2,p3,p4⟩)
   clear s0 s1 s2 s3 s4 p0 p1 p2 p3 p4;refine wp_region_noPanic ?_;refine beginX 23 (fun W=>True∧W.cell? ⟨r,0,none⟩=some (.int .i64 R.m)∧W.cell? ⟨r,1,none⟩=some (.int .i64 R.l)∧W.cell? ⟨r,2,none⟩=some (.int .i64 R.p)∧W.cell? ⟨r,3,none⟩=some (.slice L n lc)∧W.cell? ⟨r,4,none⟩=some (.slice P k pc)∧W.cell? ⟨q,3,none⟩=some (.int .i64 p.s)∧W.cell? ⟨q,4,none⟩=some (.int .i64 p.o)∧W.cell? ⟨q,5,none⟩=some (.int .i64 p.l)∧W.cell? ⟨q,6,none⟩=some (.int .i64 p.v)∧W.cell? ⟨q,7,none⟩=some (.int .i64 p.m)) (by kernel_rfl) (by exact⟨trivial,HST.out.2⟩) (fun hHeld=> ?_);refine takeX (i:=0) (oi:=⟨some 36,_,_,_,_,_⟩) (x:= ?v15) rfl (by kernel_rfl) (by kernel_rfl) (by kernel_rfl) (by kernel_rfl) (fun _ _ _ h=>h) (Or.inl ⟨by rfl,?hy15⟩) (by assumption) ?rest15
   case hy15=>intro W h;(try dsimp only at h);go_simp;try with_reducible rfl
   try simp only[Act.put,pA,pB,pC]
   refine takeX (i:=1) (oi:=⟨some 37,_,_,_,_,_⟩) (x:= ?v16) rfl (by kernel_rfl) (by kernel_rfl) (by kernel_rfl) (by kernel_rfl) (fun _ _ _ h=>h) (Or.inl ⟨by rfl,?hy16⟩) (by assumption) ?rest16
   case hy16=>intro W h;(try dsimp only at h);go_simp;try with_reducible rfl
   try simp only[Act.put,pA,pB,pC]
   refine takeX (i:=2) (oi:=⟨some 38,_,_,_,_,_⟩) (x:= ?v17) rfl (by kernel_rfl) (by kernel_rfl) (by kernel_rfl) (by kernel_rfl) (fun _ _ _ h=>h) (Or.inl ⟨by rfl,?hy17⟩) (by assumption) ?rest17
   case hy17=>intro W h;(try dsimp only at h);go_simp;try with_reducible rfl
   try simp only[Act.put,pA,pB,pC]
   refine takeX (i:=3) (oi:=⟨some 39,_,_,_,_,_⟩) (x:= ?v18) rfl (by kernel_rfl) (by kernel_rfl) (by kernel_rfl) (by kernel_rfl) (fun _ _ _ h=>h) (Or.inl ⟨by rfl,?hy18⟩) (by assumption) ?rest18
   case hy18=>intro W h;(try dsimp only at h);go_simp;try with_reducible rfl
   try simp only[Act.put,pA,pB,pC]
   refine takeX (i:=4) (oi:=⟨some 40,_,_,_,_,_⟩) (x:= ?v19) rfl (by kernel_rfl) (by kernel_rfl) (by kernel_rfl) (by kernel_rfl) (fun _ _ _ h=>h) (Or.inl ⟨by rfl,?hy19⟩) (by assumption) ?rest19
   case hy19=>intro W h;(try dsimp only at h);go_simp;try with_reducible rfl
   try simp only[Act.put,pA,pB,pC]
   refine takeX (i:=5) (oi:=⟨some 41,_,_,_,_,_⟩) (x:= ?v20) rfl (by kernel_rfl) (by kernel_rfl) (by kernel_rfl) (by kernel_rfl) (fun _ _ _ h=>h) (Or.inl ⟨by rfl,?hy20⟩) (by assumption) ?rest20
   case hy20=>intro W h;(try dsimp only at h);go_simp;try with_reducible rfl
   try simp only[Act.put,pA,pB,pC]
   refine takeX (i:=6) (oi:=⟨some 42,_,_,_,_,_⟩) (x:= ?v21) rfl (by kernel_rfl) (by kernel_rfl) (by kernel_rfl) (by kernel_rfl) (fun _ _ _ h=>h) (Or.inl ⟨by rfl,?hy21⟩) (by assumption) ?rest21
   case hy21=>intro W h;(try dsimp only at h);go_simp;try with_reducible rfl
   try simp only[Act.put,pA,pB,pC]
   refine takeX (i:=7) (oi:=⟨some 43,_,_,_,_,_⟩) (x:= ?v22) rfl (by kernel_rfl) (by kernel_rfl) (by kernel_rfl) (by kernel_rfl) (fun _ _ _ h=>h) (Or.inl ⟨by rfl,?hy22⟩) (by assumption) ?rest22
   case hy22=>intro W h;(try dsimp only at h);go_simp;try with_reducible rfl
   try simp only[Act.put,pA,pB,pC]
   refine takeX (i:=8) (oi:=⟨some 44,_,_,_,_,_⟩) (x:= ?v23) rfl (by kernel_rfl) (by kernel_rfl) (by kernel_rfl) (by kernel_rfl) (fun _ _ _ h=>h) (Or.inl ⟨by rfl,?hy23⟩) (by assumption) ?rest23
   case hy23=>intro W h;(try dsimp only at h);go_simp;try with_reducible rfl
   try simp only[Act.put,pA,pB,pC]
   refine takeX (i:=9) (oi:=⟨some 45,_,_,_,_,_⟩) (x:= ?v24) rfl (by kernel_rfl) (by kernel_rfl) (by kernel_rfl) (by kernel_rfl) (fun _ _ _ h=>h) (Or.inl ⟨by rfl,?hy24⟩) (by assumption) ?rest24
   case hy24=>intro W h;(try dsimp only at h);go_simp;try with_reducible rfl
   try simp only[Act.put,pA,pB,pC]
   refine takeX (i:=10) (oi:=⟨some 46,_,_,_,_,_⟩) (x:= ?v25) rfl (by kernel_rfl) (by kernel_rfl) (by kernel_rfl) (by kernel_rfl) (fun _ _ _ h=>h) (Or.inl ⟨by rfl,?hy25⟩) (by assumption) ?rest25
   case hy25=>intro W h;(try dsimp only at h);go_simp;try with_reducible rfl
   try simp only[Act.put,pA,pB,pC]
   refine takeX (i:=11) (oi:=⟨some 47,_,_,_,_,_⟩) (x:= ?v26) rfl (by kernel_rfl) (by kernel_rfl) (by kernel_rfl) (by kernel_rfl) (fun _ _ _ h=>h) (Or.inl ⟨by rfl,?hy26⟩) (by assumption) ?rest26
   case hy26=>intro W h;(try dsimp only at h);go_simp;try with_reducible rfl
   try simp only[Act.put,pA,pB,pC]
   refine takeX (i:=14) (oi:=⟨some 50,_,_,_,_,_⟩) (x:= ?v27) rfl (by kernel_rfl) (by kernel_rfl) (by kernel_rfl) (by kernel_rfl) (fun _ _ _ h=>h) (Or.inl ⟨by rfl,?hy27⟩) (by assumption) ?rest27
   case hy27=>intro W h;(try dsimp only at h);go_simp;try with_reducible rfl
   try simp only[Act.put,pA,pB,pC]
   refine takeX (i:=15) (oi:=⟨some 51,_,_,_,_,_⟩) (x:= ?v28) rfl (by kernel_rfl) (by kernel_rfl) (by kernel_rfl) (by kernel_rfl) (fun _ _ _ h=>h) (Or.inl ⟨by rfl,?hy28⟩) (by assumption) ?rest28
   case hy28=>intro W h;(try dsimp only at h);go_simp;try with_reducible rfl
   try simp only[Act.put,pA,pB,pC]
   refine takeX (i:=16) (oi:=⟨some 52,_,_,_,_,_⟩) (x:= ?v29) rfl (by kernel_rfl) (by kernel_rfl) (by kernel_rfl) (by kernel_rfl) (fun _ _ _ h=>h) (Or.inl ⟨by rfl,?hy29⟩) (by assumption) ?rest29
   case hy29=>intro W h;(try dsimp only at h);go_simp;try with_reducible rfl
   try simp only[Act.put,pA,pB,pC]
   refine takeX (i:=17) (oi:=⟨some 53,_,_,_,_,_⟩) (x:= ?v30) rfl (by kernel_rfl) (by kernel_rfl) (by kernel_rfl) (by kernel_rfl) (fun _ _ _ h=>h) (Or.inl ⟨by rfl,?hy30⟩) (by assumption) ?rest30
   case hy30=>intro W h;(try dsimp only at h);go_simp;try with_reducible rfl
   try simp only[Act.put,pA,pB,pC]
   refine takeX (i:=18) (oi:=⟨some 54,_,_,_,_,_⟩) (x:= ?v31) rfl (by kernel_rfl) (by kernel_rfl) (by kernel_rfl) (by kernel_rfl) (fun _ _ _ h=>h) (Or.inl ⟨by rfl,?hy31⟩) (by assumption) ?rest31
   case hy31=>intro W h;(try dsimp only at h);go_simp;try with_reducible rfl
   try simp only[Act.put,pA,pB,pC]
   refine takeX (i:=19) (oi:=⟨some 55,_,_,_,_,_⟩) (x:= ?v32) rfl (by kernel_rfl) (by kernel_rfl) (by kernel_rfl) (by kernel_rfl) (fun _ _ _ h=>h) (Or.inl ⟨by rfl,?hy32⟩) (by assumption) ?rest32
   case hy32=>intro W h;(try dsimp only at h);go_simp;try with_reducible rfl
   try simp only[Act.put,pA,pB,pC]
   refine oneX (i:=12) (o:=⟨some 48,_,_,_,_,_⟩) rfl (by kernel_rfl) (by rfl) (fun K hK=> ?_);go_simp;have hx6:=hHeld.2;refine(record.len_any R L P n lc k pc _ (HR5.out.at_.kept (Kept.refl [] w5).drew)).mono ?_;rintro e w6 ⟨rfl,hk6⟩;rw[HM.out];have HKD:=hide ((Kept.refl [] w5).drew.trans hk6 (by simp));have HW6:=hide (HW5.out.kept HKD.out (by simp));have HB6:=hide (HB5.out.kept' HKD.out);have HS6:=hide (HS5.out.kept' HKD.out);have HR6:=hide (HR5.out.kept HKD.out (by simp));have HK6:=hide (HK5.out.trans HKD.out (by simp));obtain⟨s0,s1,s2,s3,s4⟩:=cell5 HS6.out;obtain⟨p0,p1,p2,p3,p4⟩:=HW6.out.place;have f3:=HW6.out.frozen 3;have f4:=HW6.out.frozen 4;have f5:=HW6.out.frozen 5;have f6:=HW6.out.frozen 6;have f7:=HW6.out.frozen 7;clear hx6 HW5 HB5 HS5 HR5 HK5 hk6;refine hK.out _ _ (by exact⟨trivial,s0,s1,s2,s3,s4,p0,p1,p2,p3,p4⟩) (fun hHeld=>tS ?_);clear hK K;refine takeX (i:=13) (oi:=⟨some 49,_,_,_,_,_⟩) (x:= ?v33) rfl (by kernel_rfl) (by kernel_rfl) (by kernel_rfl) (by kernel_rfl) (fun _ _ _ h=>h) (Or.inl ⟨by rfl,?hy33⟩) (by assumption) ?rest33
   case hy33=>intro W h;(try dsimp only at h);go_simp;try with_reducible rfl
   try simp only[Act.put,pA,pB,pC]
   refine takeX (i:=20) (oi:=⟨some 56,_,_,_,_,_⟩) (x:= ?v34) rfl (by kernel_rfl) (by kernel_rfl) (by kernel_rfl) (by kernel_rfl) (fun _ _ _ h=>h) (Or.inl ⟨by rfl,?hy34⟩) (by assumption) ?rest34
   case hy34=>intro W h;(try dsimp only at h);go_simp;try with_reducible rfl
   try simp only[Act.put,pA,pB,pC]
   refine oneX (i:=21) (o:=⟨some 57,_,_,_,_,_⟩) rfl (by kernel_rfl) (by rfl) (fun K hK=> ?_);go_simp;refine hK.out _ _ (by exact hHeld) (fun hHeld=>tS ?_);clear hK K;refine takeX (i:=22) (oi:=⟨some 58,_,_,_,_,_⟩) (x:= ?v35) rfl (by kernel_rfl) (by kernel_rfl) (by kernel_rfl) (by kernel_rfl) (fun _ _ _ h=>h) (Or.inl ⟨by rfl,?hy35⟩) (by assumption) ?rest35
   case hy35=>intro W h;(try dsimp only at h);go_simp;try with_reducible rfl
   try simp only[Act.put,pA,pB,pC]
   refine lastX (o:=⟨none,_,_,_,_,_⟩) rfl (by kernel_rfl) (by rfl) (by kernel_rfl) (fun K hK=> ?_);go_simp;have HW7:=hide (HW6.out.setPlace ⟨p.s,p.o+m,R.l+1,sm,R.m⟩);have HKS:=hide (((((((Kept.refl [q] w6).set_ (b:=q) (.inl (by simp)) 3 (.int .i64 p.s)).set_ (b:=q) (.inl (by simp)) 4 (.int .i64 (p.o+m))).set_ (b:=q) (.inl (by simp)) 5 (.int .i64 (R.l+1))).set_ (b:=q) (.inl (by simp)) 6 (.int .i64 sm)).set_ (b:=q) (.inl (by simp)) 7 (.int .i64 R.m)));dsimp only at HW7;generalize (((((w6.setCell ⟨q,3,none⟩ (.int .i64 p.s)).setCell ⟨q,4,none⟩ (.int .i64 (p.o+m))).setCell ⟨q,5,none⟩ (.int .i64 (R.l+1))).setCell ⟨q,6,none⟩ (.int .i64 sm)).setCell ⟨q,7,none⟩ (.int .i64 R.m))=w7 at HW7 HKS ⊢;have HB7:=hide (HKS.out.blk HB6.out (by have:=HQG.out;simp;omega));have HS7:=hide (HKS.out.blk HS6.out (by have:=HQG.out;have:=HGL.out;simp;omega));have HR7:=hide (HR6.out.kept HKS.out (by simp));have HK7:=hide (HK6.out.trans HKS.out (by simp));clear s0 s1 s2 s3 s4 p0 p1 p2 p3 p4 f3 f4 f5 f6 f7 HB6 HS6 HR6 HK6 HKS HW6;obtain⟨s0,s1,s2,s3,s4⟩:=cell5 HS7.out;obtain⟨p0,p1,p2,p3,p4⟩:=HW7.out.place;have f0:=HB7.out.frozen 0;have f1:=HB7.out.frozen 1;have f2:=HB7.out.frozen 2;have f3:=HB7.out.frozen 3;have f4:=HB7.out.frozen 4;obtain⟨u0,u1,u2,u3,u4⟩:=cell5 HB7.out;refine hK.out _ _ ?_;clear hK K
   try simp only[Act.put,pA,pB,pC]
   refine NoPanic.normal ?_;have HBW:=hide (put5 (.int .i64 R.m) (.int .i64 R.l) (.int .i64 R.p) (.slice L n lc) (.slice P k pc) HB7.out);have HKG:=hide (put5_kept (g:=g) (S:=[g]) (.int .i64 R.m) (.int .i64 R.l) (.int .i64 R.p) (.slice L n lc) (.slice P k pc) (Kept.refl [g] w7) (.inl (by simp)));go_wp2;generalize (((((World.setCell w7 ⟨g,0,none⟩ (.int .i64 R.m)).setCell ⟨g,1,none⟩ (.int .i64 R.l)).setCell ⟨g,2,none⟩ (.int .i64 R.p)).setCell ⟨g,3,none⟩ (.slice L n lc)).setCell ⟨g,4,none⟩ (.slice P k pc))=W at HBW HKG ⊢;obtain⟨t0,t1,t2,t3,t4⟩:=cell5 HBW.out;refine bodyPost_ret (v:= .tuple #[.agg #[.int .i64 R.m,.int .i64 R.l,.int .i64 R.p,.slice L n lc,.slice P k pc],.bool true]) ?_ rfl ?_
   ·simp [results,Tryz.results150,go_sem,t0,t1,t2,t3,t4]
   ·refine⟨.inl ⟨R,sm,L,n,lc,P,k,pc,HFF.eq,rfl,(HR7.out.kept HKG.out (by simp)).less (fun i hi=>by simp [hi]),?_⟩,HK7.out.trans HKG.out (fun i hi=>by simp at hi;subst hi;exact .inr HG.out)⟩;rw[HBE.out,HNX.out];exact HW7.out.kept HKG.out (by have:=HQG.out;simp;omega)
end Go.Proofs.YtjkmahmoclobmaaGreat.sc
namespace Go.Proofs.YtjkmahmoclobmaaGreat.sc
open Go.RowKit mem base disk owns
open record (Rc RcIn RcAt put5 put5_kept cell5 size_any decode_fars)
theorem cell4h {w:World}{r:Nat}{t:TypeId}{a b c d:Value}(h:Blk w r t #[a,b,c,d]):w.cell? ⟨r,0,none⟩=some a∧w.cell? ⟨r,1,none⟩=some b∧w.cell? ⟨r,2,none⟩=some c∧w.cell? ⟨r,3,none⟩=some d:=⟨h.cell 0,h.cell 1,h.cell 2,h.cell 3⟩
inductive HeadOut (w':World) (e:Ending) (D:Dk) (a z:Int) (p:Ps) (hb:Bool) (q:Nat) (dv:Option Addr) (ov:Bool):Prop where
 | yes {p':Ps} (h:start D a z p hb=(some p',0)) (he:e= .returned (.bool true)) (hw:WkAt w' q dv a z p' 0 ov)
 | no {x:Int} (h:start D a z p hb=(none,x)) (he:e= .returned (.bool false)) (hw:WkAt w' q dv a z p x ov)
theorem wread_any (F:List Nat)(D:Dk)(q:Nat)(dv:Option Addr)(a z:Int)(p:Ps)(er:Int)(ov:Bool)(off:Int)(w:World)(hw:WkAt w q dv a z p er ov)(hv:Dsk w F dv z D)(hq:q∉F)
  (ha:0≤a∧a≤100000) (hz:z≤100000):
  Calls Tryz.prog 212 #[.pointer (some ⟨q,0,none⟩),.int .i64 off] w fun e w'=>Told w w' e (rdw D a z off er).2∧WkAt w' q dv a z p (rdw D a z off er).1 ov∧Kept [q] w w':=by
 by_cases h:off<0∨z≤off
 ·have e1:rdw D a z off er=(er,[]):=if_pos h;rw[e1]
  exact(wread_out q dv a z p er ov off w hw h).mono fun e w' ⟨h1,h2⟩=>⟨h1,by rw[h2];exact hw,by rw[h2];exact Kept.refl _ _⟩
 ·have e1:rdw D a z off er=D.read (a+off):=if_neg h;rw[e1];obtain⟨d,rfl,hd⟩:=hv (by omega);exact wread_in F d D q a z p er ov off w hw hd hq ha hz (by omega)
theorem hd_nil:hd.decode []=(hd.Hd.zero,2):=hd.decode_start [] (by simp)
theorem start_at (D:Dk)(a z:Int)(p:Ps)(hb:Bool)(h:p.o=0)(bs:List UInt8)(x:Int)(hr:rdw D a z 0 0=(x,bs)):
  start D a z p hb=if (hd.decode bs).2=0∧(hb=true∨hd.fits bs p.s p.l p.v p.m=true)then(some ⟨p.s,1,(hd.decode bs).1.l,(hd.decode bs).1.v,(hd.decode bs).1.m⟩,x)else(none,x):=by
 unfold rdw at hr;unfold start;rw[if_neg (show ¬p.o≠0 by simp [h])]
 by_cases hz:z≤0
 ·rw[if_pos (.inr hz)]at hr;injection hr with h1 h2;subst h1 h2;rw[if_pos hz,if_neg];intro hn
  have:=hd_nil
  rw[this]at hn;exact absurd hn.1 (by decide)
 ·rw[if_neg (by omega),Int.add_zero]at hr;rw[if_neg hz,hr]
theorem rdw_zero (D:Dk)(a z:Int)(bs:List UInt8)(x:Int)(hr:rdw D a z 0 0=(x,bs))(h:(hd.decode bs).2=0):x=0:=by
 unfold rdw at hr
 by_cases hz:(0:Int)<0∨z≤0
 ·rw[if_pos hz]at hr;injection hr with h1 _;exact h1.symm
 ·rw[if_neg hz]at hr
  by_cases hx:x=0
  ·exact hx
  ·have:=read_ne D (a+0) (by rw[hr];exact hx)
   rw[hr]at this;dsimp only at this;rw[this,hd_nil]at h;exact absurd h (by decide)

theorem whead_any (F:List Nat)(D:Dk)(hD:D.ok)(q:Nat)(dv:Option Addr)(a z:Int)(p:Ps)(hb:Bool)(ov:Bool)(w:World)(hw:WkAt w q dv a z p 0 ov)(hv:Dsk w F dv z D)(hq:q∉F)
  (ha:0≤a∧a≤10000) (hz:z≤1000) (h0:p.o=0):
  Calls Tryz.prog 185 #[.pointer (some ⟨q,0,none⟩),.bool hb] w fun e w'=>HeadOut w' e D a z p hb q dv ov∧Kept [q] w w':=by
 obtain⟨⟨x,bs⟩,hx⟩:∃ y,rdw D a z 0 0=y:=⟨_,rfl⟩;have HST2:=sealed (start_at D a z p hb h0 bs x hx);have HX0:=sealed (rdw_zero D a z bs x hx)
 have hl64:bs.length≤64:=by
  unfold rdw at hx
  split at hx
  ·injection hx with _ h2;rw[←h2];simp
  ·have:=read_len64 D hD (a+0)
   rw[hx]at this;dsimp only at this
   rw[this];split<;>omega
 have HC:=Calls.mono (wread_any F D q dv a z p 0 ov 0 w hw hv hq (by omega) (by omega)) (R':=fun e w'=>Told w w' e bs∧WkAt w' q dv a z p x ov∧Kept [q] w w') (fun e w' h=>by rw[hx]at h;exact h);have HCC:=hide HC;clear hx hw hv hq HC ha h0;go_enter Tryz.func185,Tryz.ntmps185;go_wp2_with fail;refine HCC.out.mono ?_;rintro e w1 ⟨⟨A1,n1,rfl,hf1,_⟩,hw1,hk1⟩;have HF1:=hide hf1;have HW1:=hide hw1;have HK1:=hide hk1;clear hf1 hw1 hk1;go_wp2_with fail;refine(hd.decode_any A1 bs.length n1 bs _ HF1.out.vals rfl HF1.out.2.2.1 (by omega)).mono ?_;rintro e w2 ⟨rfl,hk2⟩;obtain⟨H,e2,hde⟩:∃ H e2,hd.decode bs=(H,e2):=⟨_,_,rfl⟩;rw[hde]at HST2 HX0 ⊢;clear hde;dsimp only at HST2 HX0;dsimp only;unfold hd.Hd.val;have hb3:=Blk.new w2 127 #[.int .i64 H.g,.int .i64 H.m,.int .i64 H.l,.int .i64 H.v];have hk3:=(Kept.refl [] w2).alloc (.cells #[.int .i64 H.g,.int .i64 H.m,.int .i64 H.l,.int .i64 H.v] 127);have HW3:=hide ((HW1.out.kept hk2 (by simp)).kept hk3 (by simp));have HF3:=hide ((HF1.out.kept hk2 (by simp)).kept hk3 (by simp));have HK3:=hide ((HK1.out.trans hk2 (by simp)).trans hk3 (by simp));obtain⟨r,hr⟩:∃ r,w2.heap.size=r:=⟨_,rfl⟩;have HQR:=hide (show q<r by have:=(HW1.out.kept hk2 (by simp)).lt;omega);rw[hr]at hb3;obtain⟨w3,hw3⟩:∃ w3,w2.alloc (.cells #[.int .i64 H.g,.int .i64 H.m,.int .i64 H.l,.int .i64 H.v] 127)=w3:=⟨_,rfl⟩;rw[hw3]at hb3 HW3 HF3 HK3;have HS3:=hide hb3;clear hb3 hk3 hk2 HW1 HF1 HK1
 by_cases he2:e2=0
 ·subst he2;obtain rfl:x=0:=HX0.out rfl;clear HX0;have t0:((0:Int) != 0)=false:=rfl
  cases hb with
  | false=>
   obtain⟨p0,p1,p2,p3,p4⟩:=HW3.out.place;go_wp2_with fail;refine(hd.fits_any A1 bs.length n1 bs p.s p.o p.l p.v p.m _ HF3.out.vals rfl HF3.out.2.2.1 (by omega)).mono ?_;rintro e w4 ⟨rfl,hk4⟩;obtain⟨ft,hft⟩:∃ ft,hd.fits bs p.s p.l p.v p.m=ft:=⟨_,rfl⟩;rw[hft]at HST2 ⊢;have HW4:=hide (HW3.out.kept hk4 (by simp));have HS4:=hide (HS3.out.kept' hk4);have HK4:=hide (HK3.out.trans hk4 (by simp));clear hft hk4 p0 p1 p2 p3 p4 HW3 HF3 HS3 HK3
   cases ft with
   | false=>
    have HNO:Seal (start D a z p false=(none,0)):=sealed (by rw[HST2.out,if_neg (by simp)]);go_wp2;go_ret;exact⟨HeadOut.no HNO.out rfl HW4.out,HK4.out⟩
   | true=>
    have HST3:Seal (start D a z p false=(some ⟨p.s,1,H.l,H.v,H.m⟩,0)):=sealed (by rw[HST2.out,if_pos (by simp)])
    skip
    obtain⟨u0,u1,u2,u3⟩:=cell4h HS4.out;obtain⟨p0,p1,p2,p3,p4⟩:=HW4.out.place;have f3:=HW4.out.frozen 3;have f4:=HW4.out.frozen 4;have f5:=HW4.out.frozen 5;have f6:=HW4.out.frozen 6;have f7:=HW4.out.frozen 7;have HST:=hide (show True∧w4.drew.cell? ⟨r,0,none⟩=some (.int .i64 H.g)∧w4.drew.cell? ⟨r,1,none⟩=some (.int .i64 H.m)∧w4.drew.cell? ⟨r,2,none⟩=some (.int .i64 H.l)∧w4.drew.cell? ⟨r,3,none⟩=some (.int .i64 H.v)∧w4.drew.cell? ⟨q,3,none⟩=some (.int .i64 p.s)from⟨trivial,u0,u1,u2,u3,p0⟩);have HW5:=hide ((WkAt.setPlace HW4.out ⟨p.s,1,H.l,H.v,H.m⟩).kept (Kept.refl [] _).drew (by simp));have HKS:=hide (((((((Kept.refl [q] w4).set_ (b:=q) (.inl (by simp)) 3 (.int .i64 p.s)).set_ (b:=q) (.inl (by simp)) 4 (.int .i64 1)).set_ (b:=q) (.inl (by simp)) 5 (.int .i64 H.l)).set_ (b:=q) (.inl (by simp)) 6 (.int .i64 H.v)).set_ (b:=q) (.inl (by simp)) 7 (.int .i64 H.m)).drew);dsimp only at HW5;go_wp2;refine wp_region_noPanic ?_;refine beginX 15 (fun W=>True∧W.cell? ⟨r,0,none⟩=some (.int .i64 H.g)∧W.cell? ⟨r,1,none⟩=some (.int .i64 H.m)∧W.cell? ⟨r,2,none⟩=some (.int .i64 H.l)∧W.cell? ⟨r,3,none⟩=some (.int .i64 H.v)∧W.cell? ⟨q,3,none⟩=some (.int .i64 p.s)) (by kernel_rfl) (by exact HST.out) (fun hHeld=> ?_);refine takeX (i:=0) (oi:=⟨some 30,_,_,_,_,_⟩) (x:= ?v1) rfl (by kernel_rfl) (by kernel_rfl) (by kernel_rfl) (by kernel_rfl) (fun _ _ _ h=>h) (Or.inl ⟨by rfl,?hy1⟩) (by assumption) ?rest1
    case hy1=>intro W h;(try dsimp only at h);go_simp;try with_reducible rfl
    try simp only[Act.put,pA,pB,pC]
    refine takeX (i:=1) (oi:=⟨some 31,_,_,_,_,_⟩) (x:= ?v2) rfl (by kernel_rfl) (by kernel_rfl) (by kernel_rfl) (by kernel_rfl) (fun _ _ _ h=>h) (Or.inl ⟨by rfl,?hy2⟩) (by assumption) ?rest2
    case hy2=>intro W h;(try dsimp only at h);go_simp;try with_reducible rfl
    try simp only[Act.put,pA,pB,pC]
    refine takeX (i:=2) (oi:=⟨some 32,_,_,_,_,_⟩) (x:= ?v3) rfl (by kernel_rfl) (by kernel_rfl) (by kernel_rfl) (by kernel_rfl) (fun _ _ _ h=>h) (Or.inl ⟨by rfl,?hy3⟩) (by assumption) ?rest3
    case hy3=>intro W h;(try dsimp only at h);go_simp;try with_reducible rfl
    try simp only[Act.put,pA,pB,pC]
    refine takeX (i:=3) (oi:=⟨some 33,_,_,_,_,_⟩) (x:= ?v4) rfl (by kernel_rfl) (by kernel_rfl) (by kernel_rfl) (by kernel_rfl) (fun _ _ _ h=>h) (Or.inl ⟨by rfl,?hy4⟩) (by assumption) ?rest4
    case hy4=>intro W h;(try dsimp only at h);go_simp;try with_reducible rfl
    try simp only[Act.put,pA,pB,pC]
    refine takeX (i:=4) (oi:=⟨some 34,_,_,_,_,_⟩) (x:= ?v5) rfl (by kernel_rfl) (by kernel_rfl) (by kernel_rfl) (by kernel_rfl) (fun _ _ _ h=>h) (Or.inl ⟨by rfl,?hy5⟩) (by assumption) ?rest5
    case hy5=>intro W h;(try dsimp only at h);go_simp;try with_reducible rfl
    try simp only[Act.put,pA,pB,pC]
    refine takeX (i:=5) (oi:=⟨some 35,_,_,_,_,_⟩) (x:= ?v6) rfl (by kernel_rfl) (by kernel_rfl) (by kernel_rfl) (by kernel_rfl) (fun _ _ _ h=>h) (Or.inl ⟨by rfl,?hy6⟩) (by assumption) ?rest6
    case hy6=>intro W h;(try dsimp only at h);go_simp;try with_reducible rfl
    try simp only[Act.put,pA,pB,pC]
    refine takeX (i:=6) (oi:=⟨some 36,_,_,_,_,_⟩) (x:= ?v7) rfl (by kernel_rfl) (by kernel_rfl) (by kernel_rfl) (by kernel_rfl) (fun _ _ _ h=>h) (Or.inl ⟨by rfl,?hy7⟩) (by assumption) ?rest7
    case hy7=>intro W h;(try dsimp only at h);go_simp;try with_reducible rfl
    try simp only[Act.put,pA,pB,pC]
    refine takeX (i:=7) (oi:=⟨some 37,_,_,_,_,_⟩) (x:= ?v8) rfl (by kernel_rfl) (by kernel_rfl) (by kernel_rfl) (by kernel_rfl) (fun _ _ _ h=>h) (Or.inl ⟨by rfl,?hy8⟩) (by assumption) ?rest8
    case hy8=>intro W h;(try dsimp only at h);go_simp;try with_reducible rfl
    try simp only[Act.put,pA,pB,pC]
    refine takeX (i:=8) (oi:=⟨some 38,_,_,_,_,_⟩) (x:= ?v9) rfl (by kernel_rfl) (by kernel_rfl) (by kernel_rfl) (by kernel_rfl) (fun _ _ _ h=>h) (Or.inl ⟨by rfl,?hy9⟩) (by assumption) ?rest9
    case hy9=>intro W h;(try dsimp only at h);go_simp;try with_reducible rfl
    try simp only[Act.put,pA,pB,pC]
    refine takeX (i:=9) (oi:=⟨some 39,_,_,_,_,_⟩) (x:= ?v10) rfl (by kernel_rfl) (by kernel_rfl) (by kernel_rfl) (by kernel_rfl) (fun _ _ _ h=>h) (Or.inl ⟨by rfl,?hy10⟩) (by assumption) ?rest10
    case hy10=>intro W h;(try dsimp only at h);go_simp;try with_reducible rfl
    try simp only[Act.put,pA,pB,pC]
    refine takeX (i:=10) (oi:=⟨some 40,_,_,_,_,_⟩) (x:= ?v11) rfl (by kernel_rfl) (by kernel_rfl) (by kernel_rfl) (by kernel_rfl) (fun _ _ _ h=>h) (Or.inl ⟨by rfl,?hy11⟩) (by assumption) ?rest11
    case hy11=>intro W h;(try dsimp only at h);go_simp;try with_reducible rfl
    try simp only[Act.put,pA,pB,pC]
    refine takeX (i:=11) (oi:=⟨some 41,_,_,_,_,_⟩) (x:= ?v12) rfl (by kernel_rfl) (by kernel_rfl) (by kernel_rfl) (by kernel_rfl) (fun _ _ _ h=>h) (Or.inl ⟨by rfl,?hy12⟩) (by assumption) ?rest12
    case hy12=>intro W h;(try dsimp only at h);go_simp;try with_reducible rfl
    try simp only[Act.put,pA,pB,pC]
    refine takeX (i:=12) (oi:=⟨some 42,_,_,_,_,_⟩) (x:= ?v13) rfl (by kernel_rfl) (by kernel_rfl) (by kernel_rfl) (by kernel_rfl) (fun _ _ _ h=>h) (Or.inl ⟨by rfl,?hy13⟩) (by assumption) ?rest13
    case hy13=>intro W h;(try dsimp only at h);go_simp;try with_reducible rfl
    try simp only[Act.put,pA,pB,pC]
    refine oneX (i:=13) (o:=⟨some 43,_,_,_,_,_⟩) rfl (by kernel_rfl) (by rfl) (fun K hK=> ?_);go_simp;refine hK.out _ _ (by exact hHeld) (fun hHeld=>tS ?_);clear hK K;refine takeX (i:=14) (oi:=⟨some 44,_,_,_,_,_⟩) (x:= ?v14) rfl (by kernel_rfl) (by kernel_rfl) (by kernel_rfl) (by kernel_rfl) (fun _ _ _ h=>h) (Or.inl ⟨by rfl,?hy14⟩) (by assumption) ?rest14
    case hy14=>intro W h;(try dsimp only at h);go_simp;try with_reducible rfl
    try simp only[Act.put,pA,pB,pC]
    refine lastX (o:=⟨none,_,_,_,_,_⟩) rfl (by kernel_rfl) (by rfl) (by kernel_rfl) (fun K hK=> ?_);go_simp;generalize (((((w4.setCell ⟨q,3,none⟩ (.int .i64 p.s)).setCell ⟨q,4,none⟩ (.int .i64 1)).setCell ⟨q,5,none⟩ (.int .i64 H.l)).setCell ⟨q,6,none⟩ (.int .i64 H.v)).setCell ⟨q,7,none⟩ (.int .i64 H.m)).drew=w5 at HW5 HKS ⊢;refine hK.out _ _ ?_;clear hK K
    try simp only[Act.put,pA,pB,pC]
    refine NoPanic.normal ?_;go_wp2;go_ret
    skip
    exact⟨HeadOut.yes HST3.out rfl HW5.out,HK4.out.trans HKS.out (by simp)⟩
  | true=>
   have HST3:Seal (start D a z p true=(some ⟨p.s,1,H.l,H.v,H.m⟩,0)):=sealed (by rw[HST2.out,if_pos (by simp)]);have HW4:=HW3;have HS4:=HS3;have HK4:=HK3;clear HW3 HS3 HK3 HF3;generalize w3=w4 at HW4 HS4 HK4 hw3 ⊢
   skip
   obtain⟨u0,u1,u2,u3⟩:=cell4h HS4.out;obtain⟨p0,p1,p2,p3,p4⟩:=HW4.out.place;have f3:=HW4.out.frozen 3;have f4:=HW4.out.frozen 4;have f5:=HW4.out.frozen 5;have f6:=HW4.out.frozen 6;have f7:=HW4.out.frozen 7;have HST:=hide (show True∧w4.drew.cell? ⟨r,0,none⟩=some (.int .i64 H.g)∧w4.drew.cell? ⟨r,1,none⟩=some (.int .i64 H.m)∧w4.drew.cell? ⟨r,2,none⟩=some (.int .i64 H.l)∧w4.drew.cell? ⟨r,3,none⟩=some (.int .i64 H.v)∧w4.drew.cell? ⟨q,3,none⟩=some (.int .i64 p.s)from⟨trivial,u0,u1,u2,u3,p0⟩);have HW5:=hide ((WkAt.setPlace HW4.out ⟨p.s,1,H.l,H.v,H.m⟩).kept (Kept.refl [] _).drew (by simp));have HKS:=hide (((((((Kept.refl [q] w4).set_ (b:=q) (.inl (by simp)) 3 (.int .i64 p.s)).set_ (b:=q) (.inl (by simp)) 4 (.int .i64 1)).set_ (b:=q) (.inl (by simp)) 5 (.int .i64 H.l)).set_ (b:=q) (.inl (by simp)) 6 (.int .i64 H.v)).set_ (b:=q) (.inl (by simp)) 7 (.int .i64 H.m)).drew);dsimp only at HW5;go_wp2;refine wp_region_noPanic ?_;refine beginX 15 (fun W=>True∧W.cell? ⟨r,0,none⟩=some (.int .i64 H.g)∧W.cell? ⟨r,1,none⟩=some (.int .i64 H.m)∧W.cell? ⟨r,2,none⟩=some (.int .i64 H.l)∧W.cell? ⟨r,3,none⟩=some (.int .i64 H.v)∧W.cell? ⟨q,3,none⟩=some (.int .i64 p.s)) (by kernel_rfl) (by exact HST.out) (fun hHeld=> ?_);refine takeX (i:=0) (oi:=⟨some 30,_,_,_,_,_⟩) (x:= ?v15) rfl (by kernel_rfl) (by kernel_rfl) (by kernel_rfl) (by kernel_rfl) (fun _ _ _ h=>h) (Or.inl ⟨by rfl,?hy15⟩) (by assumption) ?rest15
   case hy15=>intro W h;(try dsimp only at h);go_simp;try with_reducible rfl
   try simp only[Act.put,pA,pB,pC]
   refine takeX (i:=1) (oi:=⟨some 31,_,_,_,_,_⟩) (x:= ?v16) rfl (by kernel_rfl) (by kernel_rfl) (by kernel_rfl) (by kernel_rfl) (fun _ _ _ h=>h) (Or.inl ⟨by rfl,?hy16⟩) (by assumption) ?rest16
   case hy16=>intro W h;(try dsimp only at h);go_simp;try with_reducible rfl
   try simp only[Act.put,pA,pB,pC]
   refine takeX (i:=2) (oi:=⟨some 32,_,_,_,_,_⟩) (x:= ?v17) rfl (by kernel_rfl) (by kernel_rfl) (by kernel_rfl) (by kernel_rfl) (fun _ _ _ h=>h) (Or.inl ⟨by rfl,?hy17⟩) (by assumption) ?rest17
   case hy17=>intro W h;(try dsimp only at h);go_simp;try with_reducible rfl
   try simp only[Act.put,pA,pB,pC]
   refine takeX (i:=3) (oi:=⟨some 33,_,_,_,_,_⟩) (x:= ?v18) rfl (by kernel_rfl) (by kernel_rfl) (by kernel_rfl) (by kernel_rfl) (fun _ _ _ h=>h) (Or.inl ⟨by rfl,?hy18⟩) (by assumption) ?rest18
   case hy18=>intro W h;(try dsimp only at h);go_simp;try with_reducible rfl
   try simp only[Act.put,pA,pB,pC]
   refine takeX (i:=4) (oi:=⟨some 34,_,_,_,_,_⟩) (x:= ?v19) rfl (by kernel_rfl) (by kernel_rfl) (by kernel_rfl) (by kernel_rfl) (fun _ _ _ h=>h) (Or.inl ⟨by rfl,?hy19⟩) (by assumption) ?rest19
   case hy19=>intro W h;(try dsimp only at h);go_simp;try with_reducible rfl
   try simp only[Act.put,pA,pB,pC]
   refine takeX (i:=5) (oi:=⟨some 35,_,_,_,_,_⟩) (x:= ?v20) rfl (by kernel_rfl) (by kernel_rfl) (by kernel_rfl) (by kernel_rfl) (fun _ _ _ h=>h) (Or.inl ⟨by rfl,?hy20⟩) (by assumption) ?rest20
   case hy20=>intro W h;(try dsimp only at h);go_simp;try with_reducible rfl
   try simp only[Act.put,pA,pB,pC]
   refine takeX (i:=6) (oi:=⟨some 36,_,_,_,_,_⟩) (x:= ?v21) rfl (by kernel_rfl) (by kernel_rfl) (by kernel_rfl) (by kernel_rfl) (fun _ _ _ h=>h) (Or.inl ⟨by rfl,?hy21⟩) (by assumption) ?rest21
   case hy21=>intro W h;(try dsimp only at h);go_simp;try with_reducible rfl
   try simp only[Act.put,pA,pB,pC]
   refine takeX (i:=7) (oi:=⟨some 37,_,_,_,_,_⟩) (x:= ?v22) rfl (by kernel_rfl) (by kernel_rfl) (by kernel_rfl) (by kernel_rfl) (fun _ _ _ h=>h) (Or.inl ⟨by rfl,?hy22⟩) (by assumption) ?rest22
   case hy22=>intro W h;(try dsimp only at h);go_simp;try with_reducible rfl
   try simp only[Act.put,pA,pB,pC]
   refine takeX (i:=8) (oi:=⟨some 38,_,_,_,_,_⟩) (x:= ?v23) rfl (by kernel_rfl) (by kernel_rfl) (by kernel_rfl) (by kernel_rfl) (fun _ _ _ h=>h) (Or.inl ⟨by rfl,?hy23⟩) (by assumption) ?rest23
   case hy23=>intro W h;(try dsimp only at h);go_simp;try with_reducible rfl
   try simp only[Act.put,pA,pB,pC]
   refine takeX (i:=9) (oi:=⟨some 39,_,_,_,_,_⟩) (x:= ?v24) rfl (by kernel_rfl) (by kernel_rfl) (by kernel_rfl) (by kernel_rfl) (fun _ _ _ h=>h) (Or.inl ⟨by rfl,?hy24⟩) (by assumption) ?rest24
   case hy24=>intro W h;(try dsimp only at h);go_simp;try with_reducible rfl
   try simp only[Act.put,pA,pB,pC]
   refine takeX (i:=10) (oi:=⟨some 40,_,_,_,_,_⟩) (x:= ?v25) rfl (by kernel_rfl) (by kernel_rfl) (by kernel_rfl) (by kernel_rfl) (fun _ _ _ h=>h) (Or.inl ⟨by rfl,?hy25⟩) (by assumption) ?rest25
   case hy25=>intro W h;(try dsimp only at h);go_simp;try with_reducible rfl
   try simp only[Act.put,pA,pB,pC]
   refine takeX (i:=11) (oi:=⟨some 41,_,_,_,_,_⟩) (x:= ?v26) rfl (by kernel_rfl) (by kernel_rfl) (by kernel_rfl) (by kernel_rfl) (fun _ _ _ h=>h) (Or.inl ⟨by rfl,?hy26⟩) (by assumption) ?rest26
   case hy26=>intro W h;(try dsimp only at h);go_simp;try with_reducible rfl
   try simp only[Act.put,pA,pB,pC]
   refine takeX (i:=12) (oi:=⟨some 42,_,_,_,_,_⟩) (x:= ?v27) rfl (by kernel_rfl) (by kernel_rfl) (by kernel_rfl) (by kernel_rfl) (fun _ _ _ h=>h) (Or.inl ⟨by rfl,?hy27⟩) (by assumption) ?rest27
   case hy27=>intro W h;(try dsimp only at h);go_simp;try with_reducible rfl
   try simp only[Act.put,pA,pB,pC]
   refine oneX (i:=13) (o:=⟨some 43,_,_,_,_,_⟩) rfl (by kernel_rfl) (by rfl) (fun K hK=> ?_);go_simp;refine hK.out _ _ (by exact hHeld) (fun hHeld=>tS ?_);clear hK K;refine takeX (i:=14) (oi:=⟨some 44,_,_,_,_,_⟩) (x:= ?v28) rfl (by kernel_rfl) (by kernel_rfl) (by kernel_rfl) (by kernel_rfl) (fun _ _ _ h=>h) (Or.inl ⟨by rfl,?hy28⟩) (by assumption) ?rest28
   case hy28=>intro W h;(try dsimp only at h);go_simp;try with_reducible rfl
   try simp only[Act.put,pA,pB,pC]
   refine lastX (o:=⟨none,_,_,_,_,_⟩) rfl (by kernel_rfl) (by rfl) (by kernel_rfl) (fun K hK=> ?_);go_simp;generalize (((((w4.setCell ⟨q,3,none⟩ (.int .i64 p.s)).setCell ⟨q,4,none⟩ (.int .i64 1)).setCell ⟨q,5,none⟩ (.int .i64 H.l)).setCell ⟨q,6,none⟩ (.int .i64 H.v)).setCell ⟨q,7,none⟩ (.int .i64 H.m)).drew=w5 at HW5 HKS ⊢;refine hK.out _ _ ?_;clear hK K
   try simp only[Act.put,pA,pB,pC]
   refine NoPanic.normal ?_;go_wp2;go_ret
   skip
   exact⟨HeadOut.yes HST3.out rfl HW5.out,HK4.out.trans HKS.out (by simp)⟩
 ·have t0:(e2 != 0)=true:=by rw[bne_iff_ne];exact he2
  have HNO:Seal (start D a z p hb=(none,x)):=sealed (by rw[HST2.out,if_neg (fun h=>he2 h.1)]);clear he2;go_wp2;go_ret;exact⟨HeadOut.no HNO.out rfl HW3.out,HK3.out⟩
end Go.Proofs.YtjkmahmoclobmaaGreat.sc
namespace Go.Proofs.YtjkmahmoclobmaaGreat.sc
set_option linter.unusedSimpArgs false
open Go.RowKit mem base disk owns
def begun (D:Dk)(a z:Int)(p:Ps)(hb:Bool):Ps×Int×Bool:=match start D a z p hb with
 | (some q,_)=>(q,0,false)
 | (none,e)=>(p,e,true)

theorem begin_any (F:List Nat)(D:Dk)(hD:D.ok)(x:Nat)(dv:Option Addr)(a z:Int)(p:Ps)(hb:Bool)(e:Ps)(er:Int)(w:World)(h:ScAt w x dv a z p hb e er)(hv:Dsk w F dv z D)(hlt:∀ y∈F,y<w.heap.size)
  (ha:0≤a∧a≤10000) (hz:z≤1000):
  Calls Tryz.prog 149 #[.pointer (some ⟨x,0,none⟩)] w fun e w'=>∃ q,e= .returned (.pointer (some ⟨q,0,none⟩))∧w.heap.size≤q∧WkAt w' q dv a z (begun D a z p hb).1 (begun D a z p hb).2.1 (begun D a z p hb).2.2∧Kept [] w w':=by
 obtain⟨c0,c1,c2⟩:=h.seg;obtain⟨d0,d1,d2,d3,d4,d5⟩:=h.from_;have HST:=hide (show True∧w.drew.cell? ⟨x,0,none⟩=some (.pointer dv)∧w.drew.cell? ⟨x,1,none⟩=some (.int .i64 a)∧w.drew.cell? ⟨x,2,none⟩=some (.int .i64 z)∧w.drew.cell? ⟨x,3,none⟩=some (.int .i64 p.s)∧w.drew.cell? ⟨x,4,none⟩=some (.int .i64 p.o)∧w.drew.cell? ⟨x,5,none⟩=some (.int .i64 p.l)∧w.drew.cell? ⟨x,6,none⟩=some (.int .i64 p.v)∧w.drew.cell? ⟨x,7,none⟩=some (.int .i64 p.m)from⟨trivial,c0,c1,c2,d0,d1,d2,d3,d4⟩);clear c0 c1 c2 d0 d1 d2 d3 d4 d5;have hk1:=((Kept.refl [] w).alloc (.cells #[.pointer dv,.int .i64 a,.int .i64 z,.int .i64 p.s,.int .i64 p.o,.int .i64 p.l,.int .i64 p.v,.int .i64 p.m,.int .i64 0,.bool false] 235)).drew;have HW1:Hid (WkAt (w.alloc (.cells #[.pointer dv,.int .i64 a,.int .i64 z,.int .i64 p.s,.int .i64 p.o,.int .i64 p.l,.int .i64 p.v,.int .i64 p.m,.int .i64 0,.bool false] 235)).drew w.heap.size dv a z p 0 false):=hide ((Blk.new w 235 _).drew);have HS1:=hide (h.kept hk1 (by simp));have HV1:=hide (hv.kept hk1 (by simp));have HK1:=hide hk1;obtain⟨q,hq⟩:∃ q,w.heap.size=q:=⟨_,rfl⟩;have HQ:=hide (Nat.le_of_eq hq);rw[hq]at HW1;have HQF:Hid (q∉F):=hide (fun hm=>by have:=hlt q hm;omega);have HD:=hide hD;have HA:=hide ha;clear h hv hk1 hlt hD ha;go_enter Tryz.func149,Tryz.ntmps149;go_wp2;refine wp_region_noPanic ?_;refine wp_region_held_drew (S:=fun W=>True∧W.cell? ⟨x,0,none⟩=some (.pointer dv)∧W.cell? ⟨x,1,none⟩=some (.int .i64 a)∧W.cell? ⟨x,2,none⟩=some (.int .i64 z)∧W.cell? ⟨x,3,none⟩=some (.int .i64 p.s)∧W.cell? ⟨x,4,none⟩=some (.int .i64 p.o)∧W.cell? ⟨x,5,none⟩=some (.int .i64 p.l)∧W.cell? ⟨x,6,none⟩=some (.int .i64 p.v)∧W.cell? ⟨x,7,none⟩=some (.int .i64 p.m)) (by kernel_rfl) (by exact HST.out) (fun hHeld=> ?_)
 refine tK 0 4 rfl ?_;refine tK 1 5 rfl ?_;refine tK 2 6 rfl ?_;refine tK 3 7 rfl ?_;refine tK 4 8 rfl ?_;refine tK 5 9 rfl ?_;refine tK 6 10 rfl ?_;refine tK 7 11 rfl ?_;refine tK 8 12 rfl ?_;refine hO 9 (some 13) rfl fun K hK=> ?_;go_simp;obtain⟨c0,c1,c2⟩:=HS1.out.seg;obtain⟨d0,d1,d2,d3,d4,d5⟩:=HS1.out.from_;refine hK.out _ _ (by exact⟨trivial,c0,c1,c2,d0,d1,d2,d3,d4⟩) (fun hHeld=>tS ?_);clear hK K;refine tK 10 3 rfl ?_;refine wpAnyH_done (by kernel_rfl) ?_ _;refine NoPanic.normal ?_;generalize (w.alloc (.cells #[.pointer dv,.int .i64 a,.int .i64 z,.int .i64 p.s,.int .i64 p.o,.int .i64 p.l,.int .i64 p.v,.int .i64 p.m,.int .i64 0,.bool false] 235)).drew=w1 at HW1 HS1 HV1 HK1 ⊢;obtain⟨c0,c1,c2⟩:=HS1.out.seg;obtain⟨d0,d1,d2,d3,d4,d5⟩:=HS1.out.from_
 by_cases ho:p.o=0
 ·have t0:(p.o==0)=true:=beq_iff_eq.2 ho;have HO:=sealed ho;clear ho HST;go_wp2_with fail;refine(whead_any F D HD.out q dv a z p hb false _ HW1.out HV1.out HQF.out HA.out hz HO.out).mono ?_;rintro e2 w2 ⟨hho,hk2⟩;have HK2:=hide ((HK1.out.trans hk2 (fun i hi=>by simp at hi;subst hi;exact .inr HQ.out)));clear hk2 c0 c1 c2 d0 d1 d2 d3 d4 d5 HS1 HV1 HW1 HK1
  rcases hho with @⟨p',hst,rfl,hw⟩| @⟨y,hst,rfl,hw⟩
  ·have HST:=sealed hst;have HW2:=hide (hw.setOver false);have HK3:=hide (HK2.out.set_ (b:=q) (.inr HQ.out) 9 (.bool false));have f9:=hw.frozen 9;have z9:=hw.rest.2;clear hst hw;go_wp2;generalize w2.setCell ⟨q,9,none⟩ (.bool false)=w3 at HW2 HK3 ⊢;go_ret;refine⟨q,rfl,HQ.out,?_,HK3.out⟩;unfold begun;rw[HST.out];exact HW2.out
  ·have HST:=sealed hst;have HW2:=hide (hw.setOver true);have HK3:=hide (HK2.out.set_ (b:=q) (.inr HQ.out) 9 (.bool true));have f9:=hw.frozen 9;have z9:=hw.rest.2;clear hst hw;go_wp2;generalize w2.setCell ⟨q,9,none⟩ (.bool true)=w3 at HW2 HK3 ⊢;go_ret;refine⟨q,rfl,HQ.out,?_,HK3.out⟩;unfold begun;rw[HST.out];exact HW2.out
 ·have t0:(p.o==0)=false:=beq_eq_false_iff_ne.2 ho;have HST2:Seal (start D a z p hb=(some p,0)):=sealed (by unfold start;rw[if_pos ho]);clear ho;go_wp2;go_ret;refine⟨q,rfl,HQ.out,?_,HK1.out⟩;unfold begun;rw[HST2.out];exact HW1.out
end Go.Proofs.YtjkmahmoclobmaaGreat.sc
