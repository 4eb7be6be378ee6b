import Derived.Test.YtjkmahmoclobmaaGreatQScanRef
import Derived.Test.YtjkmahmoclobmaaGreatQAlike
import Derived.Test.YtjkmahmoclobmaaGreatQRDiskCore
import Derived.Test.YtjkmahmoclobmaaGreatQRecordROf
import Derived.Test.YtjkmahmoclobmaaGreatQGeomRef
import Derived.Test.YtjkmahmoclobmaaGreatQOwns
namespace Go.Proofs.YtjkmahmoclobmaaGreat.sc
set_option linter.unusedSimpArgs false
open Go.RowKit mem base disk owns
open record (Rc RcIn RcAt put5 put5_kept cell5 rsize_any rof_fars)
open item (It Items)
structure FM (w:World)(b4 b5 g6 g7 g10:Nat)(b s l:Int)(p:Ps):Prop where
 c:Blk w b4 29 #[.int .i64 b,.int .i64 s,.int .i64 l]
 p:Blk w b5 24 #[.int .i64 p.s,.int .i64 p.o,.int .i64 p.l,.int .i64 p.v,.int .i64 p.m]
 r:Blk w g6 111 #[.int .i64 0,.int .i64 0,.int .i64 0,.slice none 0 0,.slice none 0 0]
 q:Blk w g7 24 #[.int .i64 0,.int .i64 0,.int .i64 0,.int .i64 0,.int .i64 0]
 z:Blk w g10 111 #[.int .i64 0,.int .i64 0,.int .i64 0,.slice none 0 0,.slice none 0 0]
theorem FM.kept {w w':World}{b4 b5 g6 g7 g10:Nat}{b s l:Int}{p:Ps}(h:FM w b4 b5 g6 g7 g10 b s l p)(k:Kept [] w w'):FM w' b4 b5 g6 g7 g10 b s l p:=
 ⟨k.blk h.c (by simp),k.blk h.p (by simp),k.blk h.r (by simp),k.blk h.q (by simp),k.blk h.z (by simp)⟩

theorem rsize7 (bs:List UInt8):record.sizeOf bs≤7:=by
 unfold record.sizeOf
 split
 ·omega
 ·omega
theorem seg_bd2 {b s l r q a:Int}(h:geom.Rf b s l r q)(ha:0≤a∧a≤s-1):0≤geom.segAt s l r q a∧geom.segAt s l r q a≤2500:=by
 have hb:=h.bounds
 have hs:=h.ok
 unfold geom.Ok at hs
 have:=geom.mul_le (i:=a) (s:=s) (l:=l) ha.1 (by omega) (by omega) (by omega) (by omega)
 unfold geom.segAt
 rw[if_pos ha]
 omega
theorem own_vals' {w:World}{base:Nat}{A:Option Addr}{n c:Nat}{bs:List UInt8}(h:w.ownsRow base 5 1 (.slice A n c) n (bs.map B)):Vals w [] A (bs.map B)∧bs.length=n∧n≤c∧True:=by
 obtain⟨A',c',he,hc,hv⟩:=own_read h
 injection he with h1 h2 h3
 subst h1 h3
 exact⟨hv [] (by simp),by simpa using h.1,hc,trivial⟩
theorem follow_at (D:Dk)(a l:Int)(p:Ps){n:Nat}{b1:List UInt8}(ho:1≤p.o∧p.o≤l-1)(hr:D.read (a+p.o)=(0,b1))(hn:record.sizeOf b1=n)(h1:1≤n)(hb:p.o+n≤l)(hg:(gat D (a+p.o) n).2=0):
  follow D a l p=if (record.decode (gat D (a+p.o) n).1).2.2=0∧fits (record.decode (gat D (a+p.o) n).1).1 p=true then(some ((record.decode (gat D (a+p.o) n).1).1,(record.decode (gat D (a+p.o) n).1).2.1),0)else(none,0):=by
 unfold follow
 rw[if_neg (by omega),hr,if_neg (by simp),hn,if_neg (by omega),if_neg (by simp [hg])]
theorem dec_len {bs:List UInt8}{n:Nat}(hl:bs.length=64*n)(h:(record.decode bs).2.2=0):(lenOf (record.decode bs).1:Int)=n:=by
 obtain⟨T,hT,hb,hd⟩:=record.decode_yes _ h
 rw[hd]
 have:=T.bytes_len hT
 rw[hb,hl]at this
 unfold lenOf
 dsimp only
 omega
def FollowOut (w':World)(e:Ending)(Q:List Nat)(D:Dk)(a z:Int)(p:Ps):Prop:=
 (∃ R sm L n lc P k pc,follow D a z p=(some (R,sm),0)∧e= .returned (.tuple #[.agg #[.int .i64 R.m,.int .i64 R.l,.int .i64 R.p,.slice L n lc,.slice P k pc],(behind p R sm).val,.bool true,.int .i64 0])∧RcIn w' Q L n P k R)∨
 (∃ e2,follow D a z p=(none,e2)∧e= .returned (.tuple #[.agg #[.int .i64 0,.int .i64 0,.int .i64 0,.slice none 0 0,.slice none 0 0],.agg #[.int .i64 p.s,.int .i64 p.o,.int .i64 p.l,.int .i64 p.v,.int .i64 p.m],.bool false,.int .i64 e2]))

set_option maxRecDepth 100000 in
set_option maxHeartbeats 4000000 in
theorem rfollow_any (Q:List Nat)(G:List Nat)(rd:Nat)(D:Dk)(b s l r q:Int)(p:Ps)(w:World)(h:RD w G rd D)(hb:D.acts≤1000000)(hf:geom.Rf b s l r q)(hi:0≤p.s∧p.s≤s-1)(hQ:∀ x∈Q,x<w.heap.size):
  Calls Tryz.prog 81 #[.pointer (some ⟨rd,0,none⟩),.agg #[.int .i64 b,.int .i64 s,.int .i64 l],.agg #[.int .i64 p.s,.int .i64 p.o,.int .i64 p.l,.int .i64 p.v,.int .i64 p.m]] w fun e w'=>FollowOut w' e Q D (geom.segAt s l r q p.s) l p∧Kept [] w w':=by
 obtain⟨b4,hb4⟩:∃ b4,w.heap.size=b4:=⟨_,rfl⟩
 obtain⟨w1,hw1⟩:∃ w1,w.alloc (.cells #[.int .i64 b,.int .i64 s,.int .i64 l] 29)=w1:=⟨_,rfl⟩
 obtain⟨w2,hw2⟩:∃ w2,w1.alloc (.cells #[.int .i64 p.s,.int .i64 p.o,.int .i64 p.l,.int .i64 p.v,.int .i64 p.m] 24)=w2:=⟨_,rfl⟩
 obtain⟨w3,hw3⟩:∃ w3,w2.alloc (.cells #[.int .i64 0,.int .i64 0,.int .i64 0,.slice none 0 0,.slice none 0 0] 111)=w3:=⟨_,rfl⟩
 obtain⟨w4,hw4⟩:∃ w4,w3.alloc (.cells #[.int .i64 0,.int .i64 0,.int .i64 0,.int .i64 0,.int .i64 0] 24)=w4:=⟨_,rfl⟩
 obtain⟨w5,hw5⟩:∃ w5,w4.alloc (.cells #[.int .i64 0,.int .i64 0,.int .i64 0,.slice none 0 0,.slice none 0 0] 111)=w5:=⟨_,rfl⟩
 obtain⟨b5,hb5⟩:∃ b5,w1.heap.size=b5:=⟨_,rfl⟩
 obtain⟨g6,hg6⟩:∃ g6,w2.heap.size=g6:=⟨_,rfl⟩
 obtain⟨g7,hg7⟩:∃ g7,w3.heap.size=g7:=⟨_,rfl⟩
 obtain⟨g10,hg10⟩:∃ g10,w4.heap.size=g10:=⟨_,rfl⟩
 have k1:Kept [] w w1:=by rw[←hw1];exact(Kept.refl [] w).alloc _
 have k2:Kept [] w1 w2:=by rw[←hw2];exact(Kept.refl [] w1).alloc _
 have k3:Kept [] w2 w3:=by rw[←hw3];exact(Kept.refl [] w2).alloc _
 have k4:Kept [] w3 w4:=by rw[←hw4];exact(Kept.refl [] w3).alloc _
 have k5:Kept [] w4 w5:=by rw[←hw5];exact(Kept.refl [] w4).alloc _
 have m1:Blk w1 b4 29 #[.int .i64 b,.int .i64 s,.int .i64 l]:=by rw[←hw1,←hb4];exact Blk.new w _ _
 have m2:Blk w2 b5 24 #[.int .i64 p.s,.int .i64 p.o,.int .i64 p.l,.int .i64 p.v,.int .i64 p.m]:=by rw[←hw2,←hb5];exact Blk.new w1 _ _
 have m3:Blk w3 g6 111 #[.int .i64 0,.int .i64 0,.int .i64 0,.slice none 0 0,.slice none 0 0]:=by rw[←hw3,←hg6];exact Blk.new w2 _ _
 have m4:Blk w4 g7 24 #[.int .i64 0,.int .i64 0,.int .i64 0,.int .i64 0,.int .i64 0]:=by rw[←hw4,←hg7];exact Blk.new w3 _ _
 have m5:Blk w5 g10 111 #[.int .i64 0,.int .i64 0,.int .i64 0,.slice none 0 0,.slice none 0 0]:=by rw[←hw5,←hg10];exact Blk.new w4 _ _
 have k34:=k3.trans k4 (by simp)
 have k45:=k4.trans k5 (by simp)
 have k35:=k34.trans k5 (by simp)
 have k25:=k2.trans k35 (by simp)
 have k15:=k1.trans k25 (by simp)
 have HM:=hide (FM.mk (k25.blk m1 (by simp)) (k35.blk m2 (by simp)) (k45.blk m3 (by simp)) (k5.blk m4 (by simp)) m5)
 have HK:=hide k15
 have HSEP:=hide (show w.heap.size≤b4∧b4<b5∧b5<g6∧g6<g7∧g7<g10 by have a1:=m1.lt;have a2:=m2.lt;have a3:=m3.lt;have a4:=m4.lt;omega)
 have HD:=hide (h.kept k15 (by simp))
 have HOK:=hide h.1
 have HGL:=hide h.lt
 have HF:=hide hf
 have HI:=hide hi
 have HQ:=hide hQ
 have HAC:=hide hb
 obtain⟨c0,c1,c2⟩:w5.cell? ⟨b4,0,none⟩=some (.int .i64 b)∧w5.cell? ⟨b4,1,none⟩=some (.int .i64 s)∧w5.cell? ⟨b4,2,none⟩=some (.int .i64 l):=⟨HM.out.c.cell 0,HM.out.c.cell 1,HM.out.c.cell 2⟩
 obtain⟨p0,p1,p2,p3,p4⟩:=cell5 HM.out.p
 have hlb:24≤l∧l≤64:=hf.ok.2.2
 have hsub:IntKind.i64.wrap (l-1)=l-1:=IntWalk.i64_in _ (by omega)
 clear k1 k2 k3 k4 k5 m1 m2 m3 m4 m5 k34 k45 k35 k25 k15 h hf hi hQ hb
 go_enter Tryz.func81,Tryz.ntmps81
 by_cases ho:1≤p.o∧p.o≤l-1
 ·have hbd:0≤geom.segAt s l r q p.s∧geom.segAt s l r q p.s≤2500:=seg_bd2 HF.out HI.out
  obtain⟨a,haa⟩:∃ a,geom.segAt s l r q p.s=a:=⟨_,rfl⟩
  rw[haa]at hbd ⊢
  have HAA:=hide haa
  clear haa
  have ho1:=ho.1
  have ho2:=ho.2
  have ha1:=hbd.1
  have ha2:=hbd.2
  have HO:=hide ho
  clear ho
  have hsum:IntKind.i64.wrap (a+p.o)=a+p.o:=IntWalk.i64_in _ (by omega)
  go_wp2_with fail
  refine(within_yes p.o 1 (l-1) _ HO.out).mono ?_
  rintro e w6 ⟨rfl,rfl⟩
  go_wp2
  refine wp_region_noPanic ?_
  refine wp_region_held_drew (S:=fun W=>True∧(W.cell? ⟨b4,0,none⟩=some (.int .i64 b)∧W.cell? ⟨b4,1,none⟩=some (.int .i64 s)∧W.cell? ⟨b4,2,none⟩=some (.int .i64 l))∧W.cell? ⟨b5,0,none⟩=some (.int .i64 p.s)∧W.cell? ⟨b5,1,none⟩=some (.int .i64 p.o)∧W.cell? ⟨b5,2,none⟩=some (.int .i64 p.l)∧W.cell? ⟨b5,3,none⟩=some (.int .i64 p.v)∧W.cell? ⟨b5,4,none⟩=some (.int .i64 p.m)) (by kernel_rfl) (by exact⟨trivial,⟨c0,c1,c2⟩,p0,p1,p2,p3,p4⟩) (fun hHeld=> ?_)
  refine tK 0 30 rfl ?_
  try simp only[Act.put,pA,pB,pC]
  refine tK 1 31 rfl ?_
  try simp only[Act.put,pA,pB,pC]
  refine tK 2 32 rfl ?_
  try simp only[Act.put,pA,pB,pC]
  refine tK 4 34 rfl ?_
  try simp only[Act.put,pA,pB,pC]
  refine tK 5 35 rfl ?_
  try simp only[Act.put,pA,pB,pC]
  refine hO 3 (some 33) rfl fun K hK=> ?_
  go_simp
  refine(geom.rsegAt b s l r q p.s _ HF.out).mono ?_
  rintro e w6 ⟨rfl,hk6⟩
  rw[HAA.out]
  have HKS:=hide ((Kept.refl [] w5).drew.trans hk6 (by simp))
  have HM6:=hide (HM.out.kept HKS.out)
  have HK6:=hide (HK.out.trans HKS.out (by simp))
  have HD6:=hide (HD.out.kept HKS.out (by simp))
  clear p0 p1 p2 p3 p4 c0 c1 c2 hk6
  obtain⟨c0,c1,c2⟩:w6.cell? ⟨b4,0,none⟩=some (.int .i64 b)∧w6.cell? ⟨b4,1,none⟩=some (.int .i64 s)∧w6.cell? ⟨b4,2,none⟩=some (.int .i64 l):=⟨HM6.out.c.cell 0,HM6.out.c.cell 1,HM6.out.c.cell 2⟩
  obtain⟨p0,p1,p2,p3,p4⟩:=cell5 HM6.out.p
  refine hK.out _ _ (by exact⟨trivial,⟨c0,c1,c2⟩,p0,p1,p2,p3,p4⟩) (fun hHeld=> ?_)
  clear hK K
  try simp only[Act.put,pA,pB,pC]
  refine tK 6 36 rfl ?_
  try simp only[Act.put,pA,pB,pC]
  refine tK 7 11 rfl ?_
  try simp only[Act.put,pA,pB,pC]
  refine wpAnyH_done (by kernel_rfl) ?_ _
  refine NoPanic.normal ?_
  clear HM HK HD HKS
  clear hHeld
  go_wp2_with fail
  refine(rread_own rd G D (a+p.o) _ HD6.out HAC.out).mono ?_
  rintro e w7 ⟨⟨A1,n1,rfl,hf1,hown⟩,hk7⟩
  have HF1:=hide hf1
  have HO1:=hide hown
  have HM:=hide (HM6.out.kept hk7)
  have HK:=hide (HK6.out.trans hk7 (by simp))
  have HD:=hide (HD6.out.kept hk7 (by simp))
  have HBZ:=hide HK6.out.size
  obtain⟨bz,hbz⟩:∃ bz,w6.heap.size=bz:=⟨_,rfl⟩
  rw[hbz]at HO1 HBZ
  have HBZ2:=hide (show bz≤w7.heap.size by have:=hk7.size;omega)
  have HZ10:=hide (show g10<bz by have:=HM6.out.z.lt;omega)
  clear hf1 hown hk7 HM6 HK6 HD6 p0 p1 p2 p3 p4 c0 c1 c2 hbz
  have hl64:=read_len64 D HOK.out (a+p.o)
  obtain⟨⟨e1,b1⟩,hr1⟩:∃ y,D.read (a+p.o)=y:=⟨_,rfl⟩
  have HR1:=sealed hr1
  rw[hr1]at HF1 HO1 hl64 ⊢
  clear hr1
  dsimp only at HF1 HO1 hl64 ⊢
  have hL64:b1.length≤64:=by rw[hl64];split<;>omega
  by_cases he1:e1=0
  ·subst he1
   rw[if_pos rfl]at hl64
   have HL64:=hide hl64
   have t0:((0:Int) != 0)=false:=rfl
   obtain⟨n,hn⟩:∃ n,record.sizeOf b1=n:=⟨_,rfl⟩
   have HN:=sealed hn
   have hn7:n≤7:=by rw[←hn];exact rsize7 _
   rw[hl64]
   rw[hl64]at HF1 HO1
   clear hn hl64
   go_wp2_with fail
   refine(rsize_any A1 64 n1 b1 _ HF1.out.vals HL64.out).mono ?_
   rintro e w8 ⟨rfl,rfl⟩
   rw[HN.out]
   obtain⟨c0,c1,c2⟩:w7.cell? ⟨b4,0,none⟩=some (.int .i64 b)∧w7.cell? ⟨b4,1,none⟩=some (.int .i64 s)∧w7.cell? ⟨b4,2,none⟩=some (.int .i64 l):=⟨HM.out.c.cell 0,HM.out.c.cell 1,HM.out.c.cell 2⟩
   obtain⟨p0,p1,p2,p3,p4⟩:=cell5 HM.out.p
   by_cases hn0:n=0
   ·subst hn0
    have HFN:Fo D a l p none 0:=Fo.mk (by
     unfold follow
     rw[if_neg (by have:=HO.out;omega),HR1.out,if_neg (by simp),if_pos (.inl HN.out)])
    have tz:(((0:Nat):Int)==0)=true:=rfl
    clear p0 p1 p2 p3 p4 c0 c1 c2
    obtain⟨z0,z1,z2,z3,z4⟩:=cell5 HM.out.z
    obtain⟨r0,r1,r2,r3,r4⟩:=cell5 HM.out.r
    obtain⟨p0,p1,p2,p3,p4⟩:=cell5 HM.out.p
    obtain⟨q0,q1,q2,q3,q4⟩:=cell5 HM.out.q
    have fr:=HM.out.r.frozen
    have fq:=HM.out.q.frozen
    have fr0:=fr 0
    have fr1:=fr 1
    have fr2:=fr 2
    have fr3:=fr 3
    have fr4:=fr 4
    have HBA:=hide ((put5 (.int .i64 0) (.int .i64 0) (.int .i64 0) (.slice none 0 0) (.slice none 0 0) HM.out.r).drew)
    have HKA:=hide ((put5_kept (g:=g6) (S:=[g6]) (.int .i64 0) (.int .i64 0) (.int .i64 0) (.slice none 0 0) (.slice none 0 0) (Kept.refl [g6] w7) (.inl (by simp))).drew)
    clear fr fq
    go_wp2
    refine wp_region_noPanic ?_
    refine wp_region_held_drew (S:=fun W=>True∧(W.cell? ⟨g10,0,none⟩=some (.int .i64 0)∧W.cell? ⟨g10,1,none⟩=some (.int .i64 0)∧W.cell? ⟨g10,2,none⟩=some (.int .i64 0)∧W.cell? ⟨g10,3,none⟩=some (.slice none 0 0)∧W.cell? ⟨g10,4,none⟩=some (.slice none 0 0))∧W.cell? ⟨b5,0,none⟩=some (.int .i64 p.s)∧W.cell? ⟨b5,1,none⟩=some (.int .i64 p.o)∧W.cell? ⟨b5,2,none⟩=some (.int .i64 p.l)∧W.cell? ⟨b5,3,none⟩=some (.int .i64 p.v)∧W.cell? ⟨b5,4,none⟩=some (.int .i64 p.m)) (by kernel_rfl) (by exact⟨trivial,⟨z0,z1,z2,z3,z4⟩,p0,p1,p2,p3,p4⟩) (fun hHeld=> ?_)
    refine tK 0 61 rfl ?_
    try simp only[Act.put,pA,pB,pC]
    refine tK 1 62 rfl ?_
    try simp only[Act.put,pA,pB,pC]
    refine hO 2 none rfl fun K hK=> ?_
    go_simp
    generalize (World.setCell (World.setCell (World.setCell (World.setCell (World.setCell w7 ⟨g6,0,none⟩ (.int .i64 0)) ⟨g6,1,none⟩ (.int .i64 0)) ⟨g6,2,none⟩ (.int .i64 0)) ⟨g6,3,none⟩ (.slice none 0 0)) ⟨g6,4,none⟩ (.slice none 0 0)).drew=wA at HBA HKA ⊢
    obtain⟨z0,z1,z2,z3,z4⟩:=cell5 (HKA.out.blk HM.out.z (by have:=HSEP.out;simp;omega))
    obtain⟨p0,p1,p2,p3,p4⟩:=cell5 (HKA.out.blk HM.out.p (by have:=HSEP.out;simp;omega))
    have hqa:=HKA.out.blk HM.out.q (by have:=HSEP.out;simp;omega)
    have HQA:=hide hqa
    obtain⟨q0,q1,q2,q3,q4⟩:=cell5 hqa
    have fq0:=hqa.frozen 0
    have fq1:=hqa.frozen 1
    have fq2:=hqa.frozen 2
    have fq3:=hqa.frozen 3
    have fq4:=hqa.frozen 4
    have HBB:=hide (put5 (.int .i64 p.s) (.int .i64 p.o) (.int .i64 p.l) (.int .i64 p.v) (.int .i64 p.m) HQA.out)
    have HKB:=hide (put5_kept (g:=g7) (S:=[g7]) (.int .i64 p.s) (.int .i64 p.o) (.int .i64 p.l) (.int .i64 p.v) (.int .i64 p.m) (Kept.refl [g7] wA) (.inl (by simp)))
    clear hqa
    refine hK.out _ _ (by exact⟨trivial,⟨z0,z1,z2,z3,z4⟩,p0,p1,p2,p3,p4⟩) (fun hHeld=> ?_)
    clear hK K
    try simp only[Act.put,pA,pB,pC]
    refine hO 3 none rfl fun K hK=> ?_
    go_simp
    generalize (World.setCell (World.setCell (World.setCell (World.setCell (World.setCell wA ⟨g7,0,none⟩ (.int .i64 p.s)) ⟨g7,1,none⟩ (.int .i64 p.o)) ⟨g7,2,none⟩ (.int .i64 p.l)) ⟨g7,3,none⟩ (.int .i64 p.v)) ⟨g7,4,none⟩ (.int .i64 p.m))=wB at HBB HKB ⊢
    have HRB:=hide (HKB.out.blk HBA.out (by have:=HSEP.out;simp;omega))
    have HK6:=hide ((HK.out.trans HKA.out (fun i hi=>by simp at hi;subst hi;have:=HSEP.out;exact .inr (by omega))).trans HKB.out (fun i hi=>by simp at hi;subst hi;have:=HSEP.out;exact .inr (by omega)))
    obtain⟨z0,z1,z2,z3,z4⟩:=cell5 (HKB.out.blk (HKA.out.blk HM.out.z (by have:=HSEP.out;simp;omega)) (by have:=HSEP.out;simp;omega))
    obtain⟨p0,p1,p2,p3,p4⟩:=cell5 (HKB.out.blk (HKA.out.blk HM.out.p (by have:=HSEP.out;simp;omega)) (by have:=HSEP.out;simp;omega))
    refine hK.out _ _ (by exact⟨trivial,⟨z0,z1,z2,z3,z4⟩,p0,p1,p2,p3,p4⟩) (fun hHeld=> ?_)
    clear hK K
    try simp only[Act.put,pA,pB,pC]
    refine tK 4 8 rfl ?_
    try simp only[Act.put,pA,pB,pC]
    refine tK 5 9 rfl ?_
    try simp only[Act.put,pA,pB,pC]
    refine wpAnyH_done (by kernel_rfl) ?_ _
    refine NoPanic.normal ?_
    go_wp2
    obtain⟨t0,t1,t2,t3,t4⟩:=cell5 HRB.out
    obtain⟨v0,v1,v2,v3,v4⟩:=cell5 HBB.out
    refine bodyPost_ret (v:= .tuple #[.agg #[.int .i64 0,.int .i64 0,.int .i64 0,.slice none 0 0,.slice none 0 0],.agg #[.int .i64 p.s,.int .i64 p.o,.int .i64 p.l,.int .i64 p.v,.int .i64 p.m],.bool false,.int .i64 0]) ?_ rfl ⟨.inr ⟨_,HFN.eq,rfl⟩,HK6.out⟩
    simp [results,Tryz.results81,go_sem,t0,t1,t2,t3,t4,v0,v1,v2,v3,v4]
   ·have tz:((n:Int)==0)=false:=beq_eq_false_iff_ne.2 (by omega)
    by_cases hbig:l<p.o+n
    ·have HFN:Fo D a l p none 0:=Fo.mk (by
      unfold follow
      rw[if_neg (by have:=HO.out;omega),HR1.out,if_neg (by simp),HN.out,if_pos (.inr hbig)])
     have tb:decide (l<p.o+(n:Int))=true:=decide_eq_true hbig
     obtain⟨z0,z1,z2,z3,z4⟩:=cell5 HM.out.z
     obtain⟨r0,r1,r2,r3,r4⟩:=cell5 HM.out.r
     obtain⟨p0,p1,p2,p3,p4⟩:=cell5 HM.out.p
     obtain⟨q0,q1,q2,q3,q4⟩:=cell5 HM.out.q
     have fr:=HM.out.r.frozen
     have fq:=HM.out.q.frozen
     have fr0:=fr 0
     have fr1:=fr 1
     have fr2:=fr 2
     have fr3:=fr 3
     have fr4:=fr 4
     have HBA:=hide ((put5 (.int .i64 0) (.int .i64 0) (.int .i64 0) (.slice none 0 0) (.slice none 0 0) HM.out.r).drew)
     have HKA:=hide ((put5_kept (g:=g6) (S:=[g6]) (.int .i64 0) (.int .i64 0) (.int .i64 0) (.slice none 0 0) (.slice none 0 0) (Kept.refl [g6] w7) (.inl (by simp))).drew)
     clear fr fq
     go_wp2
     refine wp_region_noPanic ?_
     refine wp_region_held_drew (S:=fun W=>True∧(W.cell? ⟨g10,0,none⟩=some (.int .i64 0)∧W.cell? ⟨g10,1,none⟩=some (.int .i64 0)∧W.cell? ⟨g10,2,none⟩=some (.int .i64 0)∧W.cell? ⟨g10,3,none⟩=some (.slice none 0 0)∧W.cell? ⟨g10,4,none⟩=some (.slice none 0 0))∧W.cell? ⟨b5,0,none⟩=some (.int .i64 p.s)∧W.cell? ⟨b5,1,none⟩=some (.int .i64 p.o)∧W.cell? ⟨b5,2,none⟩=some (.int .i64 p.l)∧W.cell? ⟨b5,3,none⟩=some (.int .i64 p.v)∧W.cell? ⟨b5,4,none⟩=some (.int .i64 p.m)) (by kernel_rfl) (by exact⟨trivial,⟨z0,z1,z2,z3,z4⟩,p0,p1,p2,p3,p4⟩) (fun hHeld=> ?_)
     refine tK 0 61 rfl ?_
     try simp only[Act.put,pA,pB,pC]
     refine tK 1 62 rfl ?_
     try simp only[Act.put,pA,pB,pC]
     refine hO 2 none rfl fun K hK=> ?_
     go_simp
     generalize (World.setCell (World.setCell (World.setCell (World.setCell (World.setCell w7 ⟨g6,0,none⟩ (.int .i64 0)) ⟨g6,1,none⟩ (.int .i64 0)) ⟨g6,2,none⟩ (.int .i64 0)) ⟨g6,3,none⟩ (.slice none 0 0)) ⟨g6,4,none⟩ (.slice none 0 0)).drew=wA at HBA HKA ⊢
     obtain⟨z0,z1,z2,z3,z4⟩:=cell5 (HKA.out.blk HM.out.z (by have:=HSEP.out;simp;omega))
     obtain⟨p0,p1,p2,p3,p4⟩:=cell5 (HKA.out.blk HM.out.p (by have:=HSEP.out;simp;omega))
     have hqa:=HKA.out.blk HM.out.q (by have:=HSEP.out;simp;omega)
     have HQA:=hide hqa
     obtain⟨q0,q1,q2,q3,q4⟩:=cell5 hqa
     have fq0:=hqa.frozen 0
     have fq1:=hqa.frozen 1
     have fq2:=hqa.frozen 2
     have fq3:=hqa.frozen 3
     have fq4:=hqa.frozen 4
     have HBB:=hide (put5 (.int .i64 p.s) (.int .i64 p.o) (.int .i64 p.l) (.int .i64 p.v) (.int .i64 p.m) HQA.out)
     have HKB:=hide (put5_kept (g:=g7) (S:=[g7]) (.int .i64 p.s) (.int .i64 p.o) (.int .i64 p.l) (.int .i64 p.v) (.int .i64 p.m) (Kept.refl [g7] wA) (.inl (by simp)))
     clear hqa
     refine hK.out _ _ (by exact⟨trivial,⟨z0,z1,z2,z3,z4⟩,p0,p1,p2,p3,p4⟩) (fun hHeld=> ?_)
     clear hK K
     try simp only[Act.put,pA,pB,pC]
     refine hO 3 none rfl fun K hK=> ?_
     go_simp
     generalize (World.setCell (World.setCell (World.setCell (World.setCell (World.setCell wA ⟨g7,0,none⟩ (.int .i64 p.s)) ⟨g7,1,none⟩ (.int .i64 p.o)) ⟨g7,2,none⟩ (.int .i64 p.l)) ⟨g7,3,none⟩ (.int .i64 p.v)) ⟨g7,4,none⟩ (.int .i64 p.m))=wB at HBB HKB ⊢
     have HRB:=hide (HKB.out.blk HBA.out (by have:=HSEP.out;simp;omega))
     have HK6:=hide ((HK.out.trans HKA.out (fun i hi=>by simp at hi;subst hi;have:=HSEP.out;exact .inr (by omega))).trans HKB.out (fun i hi=>by simp at hi;subst hi;have:=HSEP.out;exact .inr (by omega)))
     obtain⟨z0,z1,z2,z3,z4⟩:=cell5 (HKB.out.blk (HKA.out.blk HM.out.z (by have:=HSEP.out;simp;omega)) (by have:=HSEP.out;simp;omega))
     obtain⟨p0,p1,p2,p3,p4⟩:=cell5 (HKB.out.blk (HKA.out.blk HM.out.p (by have:=HSEP.out;simp;omega)) (by have:=HSEP.out;simp;omega))
     refine hK.out _ _ (by exact⟨trivial,⟨z0,z1,z2,z3,z4⟩,p0,p1,p2,p3,p4⟩) (fun hHeld=> ?_)
     clear hK K
     try simp only[Act.put,pA,pB,pC]
     refine tK 4 8 rfl ?_
     try simp only[Act.put,pA,pB,pC]
     refine tK 5 9 rfl ?_
     try simp only[Act.put,pA,pB,pC]
     refine wpAnyH_done (by kernel_rfl) ?_ _
     refine NoPanic.normal ?_
     go_wp2
     obtain⟨t0,t1,t2,t3,t4⟩:=cell5 HRB.out
     obtain⟨v0,v1,v2,v3,v4⟩:=cell5 HBB.out
     refine bodyPost_ret (v:= .tuple #[.agg #[.int .i64 0,.int .i64 0,.int .i64 0,.slice none 0 0,.slice none 0 0],.agg #[.int .i64 p.s,.int .i64 p.o,.int .i64 p.l,.int .i64 p.v,.int .i64 p.m],.bool false,.int .i64 0]) ?_ rfl ⟨.inr ⟨_,HFN.eq,rfl⟩,HK6.out⟩
     simp [results,Tryz.results81,go_sem,t0,t1,t2,t3,t4,v0,v1,v2,v3,v4]
    ·skip
     have tb:decide (l<p.o+(n:Int))=false:=decide_eq_false hbig
     have HBIG:=hide (show p.o+n≤l by omega)
     have HN0:=hide (show 1≤n by omega)
     have HG1:Hid ((gat D (a+p.o) 1).2=0):=hide (by rw[gat_one,HR1.out])
     have HO3:Hid (w7.ownsRow bz 5 1 (.slice A1 (64*1) n1) (64*1) ((gat D (a+p.o) 1).1.map B)):=hide (by rw[gat_one,HR1.out];exact HO1.out)
     have hb6:p.o+(n:Int)≤l:=by omega
     clear hbig p0 p1 p2 p3 p4 c0 c1 c2
     obtain⟨c0,c1,c2⟩:w7.cell? ⟨b4,0,none⟩=some (.int .i64 b)∧w7.cell? ⟨b4,1,none⟩=some (.int .i64 s)∧w7.cell? ⟨b4,2,none⟩=some (.int .i64 l):=⟨HM.out.c.cell 0,HM.out.c.cell 1,HM.out.c.cell 2⟩
     obtain⟨p0,p1,p2,p3,p4⟩:=cell5 HM.out.p
     go_wp2
     go_loopw [12,15] (fun x k wr=>∃ (j:Nat) (Ar:Option Addr) (cr:Nat),1≤j∧j≤n∧k= .int .i64 j∧x= .slice Ar (64*j) cr∧Hid ((gat D (a+p.o) j).2=0)∧Hid (wr.ownsRow bz 5 1 (.slice Ar (64*j) cr) (64*j) ((gat D (a+p.o) j).1.map B))∧Hid (RD wr G rd D)∧Hid (FM wr b4 b5 g6 g7 g10 b s l p)∧Hid (Kept [] w wr)∧Hid (bz≤wr.heap.size)) (fun x k wr=>n-(intOf k).toNat)
     case atStart=>exact⟨1,A1,n1,by omega,by have:=HN0.out;omega,rfl,rfl,HG1,HO3,HD,HM,HK,HBZ2⟩
     case round=>
      clear HM HK HD HBZ2 HO3 HG1 c0 c1 c2 p0 p1 p2 p3 p4
      obtain⟨j,Ar,cr,hj1,hj2,rfl,rfl,HGJ,HOr,HD,HM,HK,HBZr⟩:=hrel
      by_cases hlt:j<n
      ·have hs1:IntKind.i64.wrap (a+p.o+(j:Int))=a+p.o+j:=IntWalk.i64_in _ (by omega)
       go_wp2_with fail
       refine(rread_own rd G D (a+p.o+j) _ HD.out HAC.out).mono ?_
       rintro e w8 ⟨⟨A2,n2,rfl,hf2,_⟩,hk8⟩
       have HGN:=sealed (gat_on D (a+p.o) j HGJ.out)
       have hl2:=read_len64 D HOK.out (a+p.o+j)
       obtain⟨⟨e2,b2⟩,hr2⟩:∃ y,D.read (a+p.o+j)=y:=⟨_,rfl⟩
       rw[hr2]at hf2 hl2 HGN ⊢
       clear hr2
       dsimp only at hf2 hl2 HGN ⊢
       have HF2:=hide hf2
       have HOX:=hide (own_keep HOr.out hk8 (by simp))
       have HZ8:=hide (Nat.le_trans HBZr.out hk8.size)
       have HD8:=hide (HD.out.kept hk8 (by simp))
       have HM8:=hide (HM.out.kept hk8)
       have HK8:=hide (HK.out.trans hk8 (by simp))
       clear HM HK HD HBZr HOr hf2 hk8
       have HM:=HM8
       have HK:=HK8
       have HD:=HD8
       clear HM8 HK8 HD8
       by_cases he2:e2=0
       ·subst he2
        rw[if_pos rfl]at hl2
        have t2:((0:Int) != 0)=false:=rfl
        have hz8:=HZ8.out
        have HL2:=hide hl2
        rw[hl2]at HF2 ⊢
        clear hl2
        go_wp2_with (at_builtin;refine wpList_append_vals rfl (.tmp 81) (.tmp 82) 41 rfl bz 5 (.int .u8 0) 1 1 Tryz.underlying41 info8 rfl (by omega) _ _ _ rfl HOX.out [] A2 _ n2 (b2.map B) rfl (by simp [HL2.out]) HF2.out.vals (oneCell_B _) (by unfold maxLen;omega) (by omega) hz8 ?_;intro v9 w9 hown9 hk9 hat9)
        obtain⟨A9,c9,rfl,_⟩:=base.own_slice hown9
        have hfar:∀ i∈(Value.slice Ar (64*j) cr).ownBlock.toList,bz≤i:=fun i hi=>(own_blk HOX.out i hi).1
        have HSB:=hide (show ∀ i∈(Value.slice Ar (64*j) cr).ownBlock.toList,b4≠i∧b5≠i∧g6≠i∧g7≠i∧g10≠i from fun i hi=>by have h1:=hfar i hi;have h2:=HSEP.out;have h3:=HZ10.out;omega)
        have HM9:Hid (FM w9 b4 b5 g6 g7 g10 b s l p):=hide ⟨hk9.blk HM.out.c (fun hm=>(HSB.out _ hm).1 rfl),hk9.blk HM.out.p (fun hm=>(HSB.out _ hm).2.1 rfl),hk9.blk HM.out.r (fun hm=>(HSB.out _ hm).2.2.1 rfl),hk9.blk HM.out.q (fun hm=>(HSB.out _ hm).2.2.2.1 rfl),hk9.blk HM.out.z (fun hm=>(HSB.out _ hm).2.2.2.2 rfl)⟩
        have HK9:=hide (HK.out.trans hk9 (fun i hi=> .inr (by have h1:=hfar i hi;have h2:=HBZ.out;omega)))
        have HD9:=hide (HD.out.kept hk9 (fun x hx hm=>by have h1:=hfar _ hm;have h2:=HGL.out x hx;have h3:=HBZ.out;omega))
        have HG9:Hid ((gat D (a+p.o) (j+1)).2=0):=hide (by rw[HGN.out])
        have HO9:Hid (w9.ownsRow bz 5 1 (.slice A9 (64*(j+1)) c9) (64*(j+1)) ((gat D (a+p.o) (j+1)).1.map B)):=hide (by rw[HGN.out];dsimp only;rw[List.map_append];exact hown9)
        refine⟨⟨j+1,A9,c9,by omega,by omega,by go_num,rfl,HG9,HO9,HD9,HM9,HK9,hide (Nat.le_trans hz8 hk9.size)⟩,by simp [intOf];omega⟩
       ·have t2:(e2 != 0)=true:=by rw[bne_iff_ne];exact he2
        have HFN:Fo D a l p none e2:=Fo.mk (by
         have hg:gat D (a+p.o) n=gat D (a+p.o) (j+1):=gat_stops D (a+p.o) (j+1) (by rw[HGN.out];exact he2) n hlt
         unfold follow
         rw[if_neg (by have:=HO.out;omega),HR1.out,if_neg (by simp),HN.out,if_neg (by have:=HBIG.out;have:=HN0.out;omega),hg,HGN.out,if_pos he2])
        obtain⟨z0,z1,z2,z3,z4⟩:=cell5 HM.out.z
        obtain⟨r0,r1,r2,r3,r4⟩:=cell5 HM.out.r
        obtain⟨p0,p1,p2,p3,p4⟩:=cell5 HM.out.p
        obtain⟨q0,q1,q2,q3,q4⟩:=cell5 HM.out.q
        have fr:=HM.out.r.frozen
        have fq:=HM.out.q.frozen
        have fr0:=fr 0
        have fr1:=fr 1
        have fr2:=fr 2
        have fr3:=fr 3
        have fr4:=fr 4
        have HBA:=hide ((put5 (.int .i64 0) (.int .i64 0) (.int .i64 0) (.slice none 0 0) (.slice none 0 0) HM.out.r).drew)
        have HKA:=hide ((put5_kept (g:=g6) (S:=[g6]) (.int .i64 0) (.int .i64 0) (.int .i64 0) (.slice none 0 0) (.slice none 0 0) (Kept.refl [g6] w8) (.inl (by simp))).drew)
        clear fr fq
        go_wp2
        refine wp_region_noPanic ?_
        refine wp_region_held_drew (S:=fun W=>True∧(W.cell? ⟨g10,0,none⟩=some (.int .i64 0)∧W.cell? ⟨g10,1,none⟩=some (.int .i64 0)∧W.cell? ⟨g10,2,none⟩=some (.int .i64 0)∧W.cell? ⟨g10,3,none⟩=some (.slice none 0 0)∧W.cell? ⟨g10,4,none⟩=some (.slice none 0 0))∧W.cell? ⟨b5,0,none⟩=some (.int .i64 p.s)∧W.cell? ⟨b5,1,none⟩=some (.int .i64 p.o)∧W.cell? ⟨b5,2,none⟩=some (.int .i64 p.l)∧W.cell? ⟨b5,3,none⟩=some (.int .i64 p.v)∧W.cell? ⟨b5,4,none⟩=some (.int .i64 p.m)) (by kernel_rfl) (by exact⟨trivial,⟨z0,z1,z2,z3,z4⟩,p0,p1,p2,p3,p4⟩) (fun hHeld=> ?_)
        refine tK 0 78 rfl ?_
        try simp only[Act.put,pA,pB,pC]
        refine tK 1 79 rfl ?_
        try simp only[Act.put,pA,pB,pC]
        refine tK 2 80 rfl ?_
        try simp only[Act.put,pA,pB,pC]
        refine hO 3 none rfl fun K hK=> ?_
        go_simp
        generalize (World.setCell (World.setCell (World.setCell (World.setCell (World.setCell w8 ⟨g6,0,none⟩ (.int .i64 0)) ⟨g6,1,none⟩ (.int .i64 0)) ⟨g6,2,none⟩ (.int .i64 0)) ⟨g6,3,none⟩ (.slice none 0 0)) ⟨g6,4,none⟩ (.slice none 0 0)).drew=wA at HBA HKA ⊢
        obtain⟨z0,z1,z2,z3,z4⟩:=cell5 (HKA.out.blk HM.out.z (by have:=HSEP.out;simp;omega))
        obtain⟨p0,p1,p2,p3,p4⟩:=cell5 (HKA.out.blk HM.out.p (by have:=HSEP.out;simp;omega))
        have hqa:=HKA.out.blk HM.out.q (by have:=HSEP.out;simp;omega)
        have HQA:=hide hqa
        obtain⟨q0,q1,q2,q3,q4⟩:=cell5 hqa
        have fq0:=hqa.frozen 0
        have fq1:=hqa.frozen 1
        have fq2:=hqa.frozen 2
        have fq3:=hqa.frozen 3
        have fq4:=hqa.frozen 4
        have HBB:=hide (put5 (.int .i64 p.s) (.int .i64 p.o) (.int .i64 p.l) (.int .i64 p.v) (.int .i64 p.m) HQA.out)
        have HKB:=hide (put5_kept (g:=g7) (S:=[g7]) (.int .i64 p.s) (.int .i64 p.o) (.int .i64 p.l) (.int .i64 p.v) (.int .i64 p.m) (Kept.refl [g7] wA) (.inl (by simp)))
        clear hqa
        refine hK.out _ _ (by exact⟨trivial,⟨z0,z1,z2,z3,z4⟩,p0,p1,p2,p3,p4⟩) (fun hHeld=> ?_)
        clear hK K
        try simp only[Act.put,pA,pB,pC]
        refine hO 4 none rfl fun K hK=> ?_
        go_simp
        generalize (World.setCell (World.setCell (World.setCell (World.setCell (World.setCell wA ⟨g7,0,none⟩ (.int .i64 p.s)) ⟨g7,1,none⟩ (.int .i64 p.o)) ⟨g7,2,none⟩ (.int .i64 p.l)) ⟨g7,3,none⟩ (.int .i64 p.v)) ⟨g7,4,none⟩ (.int .i64 p.m))=wB at HBB HKB ⊢
        have HRB:=hide (HKB.out.blk HBA.out (by have:=HSEP.out;simp;omega))
        have HK6:=hide ((HK.out.trans HKA.out (fun i hi=>by simp at hi;subst hi;have:=HSEP.out;exact .inr (by omega))).trans HKB.out (fun i hi=>by simp at hi;subst hi;have:=HSEP.out;exact .inr (by omega)))
        obtain⟨z0,z1,z2,z3,z4⟩:=cell5 (HKB.out.blk (HKA.out.blk HM.out.z (by have:=HSEP.out;simp;omega)) (by have:=HSEP.out;simp;omega))
        obtain⟨p0,p1,p2,p3,p4⟩:=cell5 (HKB.out.blk (HKA.out.blk HM.out.p (by have:=HSEP.out;simp;omega)) (by have:=HSEP.out;simp;omega))
        refine hK.out _ _ (by exact⟨trivial,⟨z0,z1,z2,z3,z4⟩,p0,p1,p2,p3,p4⟩) (fun hHeld=> ?_)
        clear hK K
        try simp only[Act.put,pA,pB,pC]
        refine tK 5 8 rfl ?_
        try simp only[Act.put,pA,pB,pC]
        refine tK 6 9 rfl ?_
        try simp only[Act.put,pA,pB,pC]
        refine wpAnyH_done (by kernel_rfl) ?_ _
        refine NoPanic.normal ?_
        go_wp2
        obtain⟨t0,t1,t2,t3,t4⟩:=cell5 HRB.out
        obtain⟨v0,v1,v2,v3,v4⟩:=cell5 HBB.out
        refine bodyPost_ret (v:= .tuple #[.agg #[.int .i64 0,.int .i64 0,.int .i64 0,.slice none 0 0,.slice none 0 0],.agg #[.int .i64 p.s,.int .i64 p.o,.int .i64 p.l,.int .i64 p.v,.int .i64 p.m],.bool false,.int .i64 e2]) ?_ rfl ⟨.inr ⟨_,HFN.eq,rfl⟩,HK6.out⟩
        simp [results,Tryz.results81,go_sem,t0,t1,t2,t3,t4,v0,v1,v2,v3,v4]
      ·obtain rfl:j=n:=by omega
       obtain⟨hvs,hlen,hle,hnil⟩:=own_vals' HOr.out
       have hgl:(gat D (a+p.o) j).1.length=64*j:=(gat_len D HOK.out (a+p.o) j).1 HGJ.out
       have HGLN:=hide hgl
       have HVS:=hide hvs
       have HLE:=hide hle
       clear hvs hlen hle hnil hgl
       go_wp2_with fail
       refine(rof_fars (g6::g7::Q) Ar (64*j) cr (gat D (a+p.o) j).1 _ (List.forall_mem_cons.2 ⟨HM.out.r.lt,List.forall_mem_cons.2 ⟨HM.out.q.lt,fun x hx=>Nat.lt_of_lt_of_le (HQ.out x hx) HK.out.size⟩⟩) HVS.out HGLN.out HLE.out (by omega)).mono ?_
       rintro e w9 ⟨L,m,lc,P,k,pc,rfl,hrc,hk9⟩
       have HFS0:=sealed (follow_at D a l p HO.out HR1.out HN.out HN0.out HBIG.out HGJ.out)
       have HLN0:=sealed (fun (h:(record.decode (gat D (a+p.o) j).1).1.ok) (h2:(record.decode (gat D (a+p.o) j).1).2.2=0)=>dec_len HGLN.out h2)
       obtain⟨⟨R,sm,e3⟩,hdc⟩:∃ y,record.decode (gat D (a+p.o) j).1=y:=⟨_,rfl⟩
       rw[hdc]at hrc HFS0 HLN0 ⊢
       clear hdc
       dsimp only at hrc HFS0 HLN0 ⊢
       have hb10:=Blk.new w9 111 #[.int .i64 R.m,.int .i64 R.l,.int .i64 R.p,.slice L m lc,.slice P k pc]
       have hk10:=(Kept.refl [] w9).alloc (.cells #[.int .i64 R.m,.int .i64 R.l,.int .i64 R.p,.slice L m lc,.slice P k pc] 111)
       have HR10:=hide (hrc.kept hk10 (by simp))
       have HM10:=hide ((HM.out.kept hk9).kept hk10)
       have HK10:=hide ((HK.out.trans hk9 (by simp)).trans hk10 (by simp))
       obtain⟨rr,hrr⟩:∃ rr,w9.heap.size=rr:=⟨_,rfl⟩
       have HRRG:=hide (show g10<rr by have:=(HM.out.kept hk9).z.lt;omega)
       rw[hrr]at hb10
       obtain⟨w10,hw10⟩:∃ w10,w9.alloc (.cells #[.int .i64 R.m,.int .i64 R.l,.int .i64 R.p,.slice L m lc,.slice P k pc] 111)=w10:=⟨_,rfl⟩
       rw[hw10]at hb10 HR10 HM10 HK10
       have HS10:=hide hb10
       clear HM HK HD HOr hrc hk9 hk10 hb10 HVS HLE
       have HM:=HM10
       have HK:=HK10
       clear HM10 HK10
       obtain⟨s0,s1,s2,s3,s4⟩:=cell5 HS10.out
       obtain⟨p0,p1,p2,p3,p4⟩:=cell5 HM.out.p
       have HFS2:=sealed (fun (h:¬(e3=0∧fits R p=true))=>HFS0.out.trans (if_neg h))
       by_cases he3:e3=0
       ·subst he3
        have t3:((0:Int) != 0)=false:=rfl
        have HFS:=sealed (fun (h:fits R p=true)=>HFS0.out.trans (if_pos ⟨rfl,h⟩))
        have HLNN:=sealed (fun (h:R.ok)=>HLN0.out h rfl)
        clear HFS0 HLN0
        by_cases hL:R.l=p.l
        ·have tl:(R.l != p.l)=false:=by rw[hL];simp
         have HEL:=sealed hL
         clear hL
         by_cases hP:R.p=p.v
         ·have tp:(R.p != p.v)=false:=by rw[hP];simp
          have HEP:=sealed hP
          clear hP
          by_cases hM:R.m<p.m
          ·have tm:decide (R.m<p.m)=true:=decide_eq_true hM
           have HEM:=sealed hM
           clear hM
           have HFN:Fo D a l p none 0:=Fo.mk (HFS2.out (fun hf=>by have h1:=HEM.out;simp [fits]at hf;omega))
           obtain⟨z0,z1,z2,z3,z4⟩:=cell5 HM.out.z
           obtain⟨r0,r1,r2,r3,r4⟩:=cell5 HM.out.r
           obtain⟨p0,p1,p2,p3,p4⟩:=cell5 HM.out.p
           obtain⟨q0,q1,q2,q3,q4⟩:=cell5 HM.out.q
           have fr:=HM.out.r.frozen
           have fq:=HM.out.q.frozen
           have fr0:=fr 0
           have fr1:=fr 1
           have fr2:=fr 2
           have fr3:=fr 3
           have fr4:=fr 4
           have HBA:=hide ((put5 (.int .i64 0) (.int .i64 0) (.int .i64 0) (.slice none 0 0) (.slice none 0 0) HM.out.r).drew)
           have HKA:=hide ((put5_kept (g:=g6) (S:=[g6]) (.int .i64 0) (.int .i64 0) (.int .i64 0) (.slice none 0 0) (.slice none 0 0) (Kept.refl [g6] w10) (.inl (by simp))).drew)
           clear fr fq
           go_wp2
           refine wp_region_noPanic ?_
           refine wp_region_held_drew (S:=fun W=>True∧(W.cell? ⟨g10,0,none⟩=some (.int .i64 0)∧W.cell? ⟨g10,1,none⟩=some (.int .i64 0)∧W.cell? ⟨g10,2,none⟩=some (.int .i64 0)∧W.cell? ⟨g10,3,none⟩=some (.slice none 0 0)∧W.cell? ⟨g10,4,none⟩=some (.slice none 0 0))∧W.cell? ⟨b5,0,none⟩=some (.int .i64 p.s)∧W.cell? ⟨b5,1,none⟩=some (.int .i64 p.o)∧W.cell? ⟨b5,2,none⟩=some (.int .i64 p.l)∧W.cell? ⟨b5,3,none⟩=some (.int .i64 p.v)∧W.cell? ⟨b5,4,none⟩=some (.int .i64 p.m)) (by kernel_rfl) (by exact⟨trivial,⟨z0,z1,z2,z3,z4⟩,p0,p1,p2,p3,p4⟩) (fun hHeld=> ?_)
           refine tK 0 113 rfl ?_
           try simp only[Act.put,pA,pB,pC]
           refine tK 1 114 rfl ?_
           try simp only[Act.put,pA,pB,pC]
           refine hO 2 none rfl fun K hK=> ?_
           go_simp
           generalize (World.setCell (World.setCell (World.setCell (World.setCell (World.setCell w10 ⟨g6,0,none⟩ (.int .i64 0)) ⟨g6,1,none⟩ (.int .i64 0)) ⟨g6,2,none⟩ (.int .i64 0)) ⟨g6,3,none⟩ (.slice none 0 0)) ⟨g6,4,none⟩ (.slice none 0 0)).drew=wA at HBA HKA ⊢
           obtain⟨z0,z1,z2,z3,z4⟩:=cell5 (HKA.out.blk HM.out.z (by have:=HSEP.out;simp;omega))
           obtain⟨p0,p1,p2,p3,p4⟩:=cell5 (HKA.out.blk HM.out.p (by have:=HSEP.out;simp;omega))
           have hqa:=HKA.out.blk HM.out.q (by have:=HSEP.out;simp;omega)
           have HQA:=hide hqa
           obtain⟨q0,q1,q2,q3,q4⟩:=cell5 hqa
           have fq0:=hqa.frozen 0
           have fq1:=hqa.frozen 1
           have fq2:=hqa.frozen 2
           have fq3:=hqa.frozen 3
           have fq4:=hqa.frozen 4
           have HBB:=hide (put5 (.int .i64 p.s) (.int .i64 p.o) (.int .i64 p.l) (.int .i64 p.v) (.int .i64 p.m) HQA.out)
           have HKB:=hide (put5_kept (g:=g7) (S:=[g7]) (.int .i64 p.s) (.int .i64 p.o) (.int .i64 p.l) (.int .i64 p.v) (.int .i64 p.m) (Kept.refl [g7] wA) (.inl (by simp)))
           clear hqa
           refine hK.out _ _ (by exact⟨trivial,⟨z0,z1,z2,z3,z4⟩,p0,p1,p2,p3,p4⟩) (fun hHeld=> ?_)
           clear hK K
           try simp only[Act.put,pA,pB,pC]
           refine hO 3 none rfl fun K hK=> ?_
           go_simp
           generalize (World.setCell (World.setCell (World.setCell (World.setCell (World.setCell wA ⟨g7,0,none⟩ (.int .i64 p.s)) ⟨g7,1,none⟩ (.int .i64 p.o)) ⟨g7,2,none⟩ (.int .i64 p.l)) ⟨g7,3,none⟩ (.int .i64 p.v)) ⟨g7,4,none⟩ (.int .i64 p.m))=wB at HBB HKB ⊢
           have HRB:=hide (HKB.out.blk HBA.out (by have:=HSEP.out;simp;omega))
           have HK6:=hide ((HK.out.trans HKA.out (fun i hi=>by simp at hi;subst hi;have:=HSEP.out;exact .inr (by omega))).trans HKB.out (fun i hi=>by simp at hi;subst hi;have:=HSEP.out;exact .inr (by omega)))
           obtain⟨z0,z1,z2,z3,z4⟩:=cell5 (HKB.out.blk (HKA.out.blk HM.out.z (by have:=HSEP.out;simp;omega)) (by have:=HSEP.out;simp;omega))
           obtain⟨p0,p1,p2,p3,p4⟩:=cell5 (HKB.out.blk (HKA.out.blk HM.out.p (by have:=HSEP.out;simp;omega)) (by have:=HSEP.out;simp;omega))
           refine hK.out _ _ (by exact⟨trivial,⟨z0,z1,z2,z3,z4⟩,p0,p1,p2,p3,p4⟩) (fun hHeld=> ?_)
           clear hK K
           try simp only[Act.put,pA,pB,pC]
           refine tK 4 8 rfl ?_
           try simp only[Act.put,pA,pB,pC]
           refine tK 5 9 rfl ?_
           try simp only[Act.put,pA,pB,pC]
           refine wpAnyH_done (by kernel_rfl) ?_ _
           refine NoPanic.normal ?_
           go_wp2
           obtain⟨t0,t1,t2,t3,t4⟩:=cell5 HRB.out
           obtain⟨v0,v1,v2,v3,v4⟩:=cell5 HBB.out
           refine bodyPost_ret (v:= .tuple #[.agg #[.int .i64 0,.int .i64 0,.int .i64 0,.slice none 0 0,.slice none 0 0],.agg #[.int .i64 p.s,.int .i64 p.o,.int .i64 p.l,.int .i64 p.v,.int .i64 p.m],.bool false,.int .i64 0]) ?_ rfl ⟨.inr ⟨_,HFN.eq,rfl⟩,HK6.out⟩
           simp [results,Tryz.results81,go_sem,t0,t1,t2,t3,t4,v0,v1,v2,v3,v4]
          ·have tm:decide (R.m<p.m)=false:=decide_eq_false hM
           have hfit:fits R p=true:=by simp [fits,HEL.out,HEP.out];omega
           clear hM
           have HFN:Fo D a l p (some (R,sm)) 0:=Fo.mk (HFS.out hfit)
           have hin:=follow_in HFN.eq
           obtain⟨hok,hsm1,hsm2,hfit2,hlz⟩:=follow_ok HOK.out HFN.eq
           have hln:(lenOf R:Int)=j:=HLNN.out hok
           have hpl:1≤R.l∧R.l≤2147483647:=hok.2.1
           have hbe:behind p R sm=⟨p.s,p.o+j,p.l+1,sm,R.m⟩:=by unfold behind;rw[hln]
           have HBE:=sealed hbe
           have g1:IntKind.i64.wrap (p.o+(j:Int))=p.o+j:=IntWalk.i64_in _ (by omega)
           have g2:IntKind.i64.wrap (p.l+1)=p.l+1:=IntWalk.i64_in _ (by have:=HEL.out;omega)
           clear hsm1 hsm2 hfit2 hlz hln hbe hok hfit
           obtain⟨s0,s1,s2,s3,s4⟩:=cell5 HS10.out
           obtain⟨r0,r1,r2,r3,r4⟩:=cell5 HM.out.r
           obtain⟨p0,p1,p2,p3,p4⟩:=cell5 HM.out.p
           have fr0:=HM.out.r.frozen 0
           have fr1:=HM.out.r.frozen 1
           have fr2:=HM.out.r.frozen 2
           have fr3:=HM.out.r.frozen 3
           have fr4:=HM.out.r.frozen 4
           have HBA:=hide ((put5 (.int .i64 R.m) (.int .i64 R.l) (.int .i64 R.p) (.slice L m lc) (.slice P k pc) HM.out.r).drew)
           have HKA:=hide ((put5_kept (g:=g6) (S:=[g6]) (.int .i64 R.m) (.int .i64 R.l) (.int .i64 R.p) (.slice L m lc) (.slice P k pc) (Kept.refl [g6] w10) (.inl (by simp))).drew)
           go_wp2
           refine wp_region_noPanic ?_
           refine wp_region_held_drew (S:=fun W=>True∧(W.cell? ⟨rr,0,none⟩=some (.int .i64 R.m)∧W.cell? ⟨rr,1,none⟩=some (.int .i64 R.l)∧W.cell? ⟨rr,2,none⟩=some (.int .i64 R.p)∧W.cell? ⟨rr,3,none⟩=some (.slice L m lc)∧W.cell? ⟨rr,4,none⟩=some (.slice P k pc))∧W.cell? ⟨b5,0,none⟩=some (.int .i64 p.s)∧W.cell? ⟨b5,1,none⟩=some (.int .i64 p.o)∧W.cell? ⟨b5,2,none⟩=some (.int .i64 p.l)∧W.cell? ⟨b5,3,none⟩=some (.int .i64 p.v)∧W.cell? ⟨b5,4,none⟩=some (.int .i64 p.m)) (by kernel_rfl) (by exact⟨trivial,⟨s0,s1,s2,s3,s4⟩,p0,p1,p2,p3,p4⟩) (fun hHeld=> ?_)
           refine tK 0 115 rfl ?_
           try simp only[Act.put,pA,pB,pC]
           refine tK 1 116 rfl ?_
           try simp only[Act.put,pA,pB,pC]
           refine tK 2 117 rfl ?_
           try simp only[Act.put,pA,pB,pC]
           refine tK 3 118 rfl ?_
           try simp only[Act.put,pA,pB,pC]
           refine tK 4 119 rfl ?_
           try simp only[Act.put,pA,pB,pC]
           refine tK 5 120 rfl ?_
           try simp only[Act.put,pA,pB,pC]
           refine tK 6 121 rfl ?_
           try simp only[Act.put,pA,pB,pC]
           refine tK 7 122 rfl ?_
           try simp only[Act.put,pA,pB,pC]
           refine tK 8 123 rfl ?_
           try simp only[Act.put,pA,pB,pC]
           refine tK 9 124 rfl ?_
           try simp only[Act.put,pA,pB,pC]
           refine tK 10 125 rfl ?_
           try simp only[Act.put,pA,pB,pC]
           refine tK 11 126 rfl ?_
           try simp only[Act.put,pA,pB,pC]
           refine tK 12 127 rfl ?_
           try simp only[Act.put,pA,pB,pC]
           refine tK 13 128 rfl ?_
           try simp only[Act.put,pA,pB,pC]
           refine hO 14 none rfl fun K hK=> ?_
           go_simp
           generalize (World.setCell (World.setCell (World.setCell (World.setCell (World.setCell w10 ⟨g6,0,none⟩ (.int .i64 R.m)) ⟨g6,1,none⟩ (.int .i64 R.l)) ⟨g6,2,none⟩ (.int .i64 R.p)) ⟨g6,3,none⟩ (.slice L m lc)) ⟨g6,4,none⟩ (.slice P k pc)).drew=wA at HBA HKA ⊢
           have HSA:=hide (HKA.out.blk HS10.out (by have:=HRRG.out;have:=HSEP.out;simp;omega))
           have HPA:=hide (HKA.out.blk HM.out.p (by have:=HSEP.out;simp;omega))
           have HQA:=hide (HKA.out.blk HM.out.q (by have:=HSEP.out;simp;omega))
           have HRA:=hide (HR10.out.kept HKA.out (by simp))
           obtain⟨s0,s1,s2,s3,s4⟩:=cell5 HSA.out
           obtain⟨p0,p1,p2,p3,p4⟩:=cell5 HPA.out
           obtain⟨q0,q1,q2,q3,q4⟩:=cell5 HQA.out
           have fq0:=HQA.out.frozen 0
           have fq1:=HQA.out.frozen 1
           have fq2:=HQA.out.frozen 2
           have fq3:=HQA.out.frozen 3
           have fq4:=HQA.out.frozen 4
           have HBB:=hide (put5 (.int .i64 p.s) (.int .i64 (p.o+j)) (.int .i64 (p.l+1)) (.int .i64 sm) (.int .i64 R.m) HQA.out)
           have HKB:=hide (put5_kept (g:=g7) (S:=[g7]) (.int .i64 p.s) (.int .i64 (p.o+j)) (.int .i64 (p.l+1)) (.int .i64 sm) (.int .i64 R.m) (Kept.refl [g7] wA) (.inl (by simp)))
           refine hK.out _ _ (by exact⟨trivial,⟨s0,s1,s2,s3,s4⟩,p0,p1,p2,p3,p4⟩) (fun hHeld=> ?_)
           clear hK K
           try simp only[Act.put,pA,pB,pC]
           refine hO 15 none rfl fun K hK=> ?_
           go_simp
           generalize (World.setCell (World.setCell (World.setCell (World.setCell (World.setCell wA ⟨g7,0,none⟩ (.int .i64 p.s)) ⟨g7,1,none⟩ (.int .i64 (p.o+j))) ⟨g7,2,none⟩ (.int .i64 (p.l+1))) ⟨g7,3,none⟩ (.int .i64 sm)) ⟨g7,4,none⟩ (.int .i64 R.m))=wB at HBB HKB ⊢
           have HRB:=hide (HKB.out.blk HBA.out (by have:=HSEP.out;simp;omega))
           have HRRB:=hide (HRA.out.kept HKB.out (by simp))
           have HK6:=hide ((HK.out.trans HKA.out (fun i hi=>by simp at hi;subst hi;have:=HSEP.out;exact .inr (by omega))).trans HKB.out (fun i hi=>by simp at hi;subst hi;have:=HSEP.out;exact .inr (by omega)))
           obtain⟨s0,s1,s2,s3,s4⟩:=cell5 (HKB.out.blk HSA.out (by have:=HRRG.out;have:=HSEP.out;simp;omega))
           obtain⟨p0,p1,p2,p3,p4⟩:=cell5 (HKB.out.blk HPA.out (by have:=HSEP.out;simp;omega))
           refine hK.out _ _ (by exact⟨trivial,⟨s0,s1,s2,s3,s4⟩,p0,p1,p2,p3,p4⟩) (fun hHeld=> ?_)
           clear hK K
           try simp only[Act.put,pA,pB,pC]
           refine tK 16 8 rfl ?_
           try simp only[Act.put,pA,pB,pC]
           refine tK 17 9 rfl ?_
           try simp only[Act.put,pA,pB,pC]
           refine wpAnyH_done (by kernel_rfl) ?_ _
           refine NoPanic.normal ?_
           go_wp2
           obtain⟨t0,t1,t2,t3,t4⟩:=cell5 HRB.out
           obtain⟨v0,v1,v2,v3,v4⟩:=cell5 HBB.out
           refine bodyPost_ret (v:= .tuple #[.agg #[.int .i64 R.m,.int .i64 R.l,.int .i64 R.p,.slice L m lc,.slice P k pc],.agg #[.int .i64 p.s,.int .i64 (p.o+j),.int .i64 (p.l+1),.int .i64 sm,.int .i64 R.m],.bool true,.int .i64 0]) ?_ rfl ⟨.inl ⟨R,sm,L,m,lc,P,k,pc,HFN.eq,by rw[HBE.out];rfl,HRRB.out.less (fun i hi=>by simp [hi])⟩,HK6.out⟩
           simp [results,Tryz.results81,go_sem,t0,t1,t2,t3,t4,v0,v1,v2,v3,v4]
         ·have tp:(R.p != p.v)=true:=by rw[bne_iff_ne];exact hP
          have HEP:=sealed hP
          clear hP
          have HFN:Fo D a l p none 0:=Fo.mk (HFS2.out (fun hf=>HEP.out (by simp [fits]at hf;exact hf.2.1)))
          obtain⟨z0,z1,z2,z3,z4⟩:=cell5 HM.out.z
          obtain⟨r0,r1,r2,r3,r4⟩:=cell5 HM.out.r
          obtain⟨p0,p1,p2,p3,p4⟩:=cell5 HM.out.p
          obtain⟨q0,q1,q2,q3,q4⟩:=cell5 HM.out.q
          have fr:=HM.out.r.frozen
          have fq:=HM.out.q.frozen
          have fr0:=fr 0
          have fr1:=fr 1
          have fr2:=fr 2
          have fr3:=fr 3
          have fr4:=fr 4
          have HBA:=hide ((put5 (.int .i64 0) (.int .i64 0) (.int .i64 0) (.slice none 0 0) (.slice none 0 0) HM.out.r).drew)
          have HKA:=hide ((put5_kept (g:=g6) (S:=[g6]) (.int .i64 0) (.int .i64 0) (.int .i64 0) (.slice none 0 0) (.slice none 0 0) (Kept.refl [g6] w10) (.inl (by simp))).drew)
          clear fr fq
          go_wp2
          refine wp_region_noPanic ?_
          refine wp_region_held_drew (S:=fun W=>True∧(W.cell? ⟨g10,0,none⟩=some (.int .i64 0)∧W.cell? ⟨g10,1,none⟩=some (.int .i64 0)∧W.cell? ⟨g10,2,none⟩=some (.int .i64 0)∧W.cell? ⟨g10,3,none⟩=some (.slice none 0 0)∧W.cell? ⟨g10,4,none⟩=some (.slice none 0 0))∧W.cell? ⟨b5,0,none⟩=some (.int .i64 p.s)∧W.cell? ⟨b5,1,none⟩=some (.int .i64 p.o)∧W.cell? ⟨b5,2,none⟩=some (.int .i64 p.l)∧W.cell? ⟨b5,3,none⟩=some (.int .i64 p.v)∧W.cell? ⟨b5,4,none⟩=some (.int .i64 p.m)) (by kernel_rfl) (by exact⟨trivial,⟨z0,z1,z2,z3,z4⟩,p0,p1,p2,p3,p4⟩) (fun hHeld=> ?_)
          refine tK 0 113 rfl ?_
          try simp only[Act.put,pA,pB,pC]
          refine tK 1 114 rfl ?_
          try simp only[Act.put,pA,pB,pC]
          refine hO 2 none rfl fun K hK=> ?_
          go_simp
          generalize (World.setCell (World.setCell (World.setCell (World.setCell (World.setCell w10 ⟨g6,0,none⟩ (.int .i64 0)) ⟨g6,1,none⟩ (.int .i64 0)) ⟨g6,2,none⟩ (.int .i64 0)) ⟨g6,3,none⟩ (.slice none 0 0)) ⟨g6,4,none⟩ (.slice none 0 0)).drew=wA at HBA HKA ⊢
          obtain⟨z0,z1,z2,z3,z4⟩:=cell5 (HKA.out.blk HM.out.z (by have:=HSEP.out;simp;omega))
          obtain⟨p0,p1,p2,p3,p4⟩:=cell5 (HKA.out.blk HM.out.p (by have:=HSEP.out;simp;omega))
          have hqa:=HKA.out.blk HM.out.q (by have:=HSEP.out;simp;omega)
          have HQA:=hide hqa
          obtain⟨q0,q1,q2,q3,q4⟩:=cell5 hqa
          have fq0:=hqa.frozen 0
          have fq1:=hqa.frozen 1
          have fq2:=hqa.frozen 2
          have fq3:=hqa.frozen 3
          have fq4:=hqa.frozen 4
          have HBB:=hide (put5 (.int .i64 p.s) (.int .i64 p.o) (.int .i64 p.l) (.int .i64 p.v) (.int .i64 p.m) HQA.out)
          have HKB:=hide (put5_kept (g:=g7) (S:=[g7]) (.int .i64 p.s) (.int .i64 p.o) (.int .i64 p.l) (.int .i64 p.v) (.int .i64 p.m) (Kept.refl [g7] wA) (.inl (by simp)))
          clear hqa
          refine hK.out _ _ (by exact⟨trivial,⟨z0,z1,z2,z3,z4⟩,p0,p1,p2,p3,p4⟩) (fun hHeld=> ?_)
          clear hK K
          try simp only[Act.put,pA,pB,pC]
          refine hO 3 none rfl fun K hK=> ?_
          go_simp
          generalize (World.setCell (World.setCell (World.setCell (World.setCell (World.setCell wA ⟨g7,0,none⟩ (.int .i64 p.s)) ⟨g7,1,none⟩ (.int .i64 p.o)) ⟨g7,2,none⟩ (.int .i64 p.l)) ⟨g7,3,none⟩ (.int .i64 p.v)) ⟨g7,4,none⟩ (.int .i64 p.m))=wB at HBB HKB ⊢
          have HRB:=hide (HKB.out.blk HBA.out (by have:=HSEP.out;simp;omega))
          have HK6:=hide ((HK.out.trans HKA.out (fun i hi=>by simp at hi;subst hi;have:=HSEP.out;exact .inr (by omega))).trans HKB.out (fun i hi=>by simp at hi;subst hi;have:=HSEP.out;exact .inr (by omega)))
          obtain⟨z0,z1,z2,z3,z4⟩:=cell5 (HKB.out.blk (HKA.out.blk HM.out.z (by have:=HSEP.out;simp;omega)) (by have:=HSEP.out;simp;omega))
          obtain⟨p0,p1,p2,p3,p4⟩:=cell5 (HKB.out.blk (HKA.out.blk HM.out.p (by have:=HSEP.out;simp;omega)) (by have:=HSEP.out;simp;omega))
          refine hK.out _ _ (by exact⟨trivial,⟨z0,z1,z2,z3,z4⟩,p0,p1,p2,p3,p4⟩) (fun hHeld=> ?_)
          clear hK K
          try simp only[Act.put,pA,pB,pC]
          refine tK 4 8 rfl ?_
          try simp only[Act.put,pA,pB,pC]
          refine tK 5 9 rfl ?_
          try simp only[Act.put,pA,pB,pC]
          refine wpAnyH_done (by kernel_rfl) ?_ _
          refine NoPanic.normal ?_
          go_wp2
          obtain⟨t0,t1,t2,t3,t4⟩:=cell5 HRB.out
          obtain⟨v0,v1,v2,v3,v4⟩:=cell5 HBB.out
          refine bodyPost_ret (v:= .tuple #[.agg #[.int .i64 0,.int .i64 0,.int .i64 0,.slice none 0 0,.slice none 0 0],.agg #[.int .i64 p.s,.int .i64 p.o,.int .i64 p.l,.int .i64 p.v,.int .i64 p.m],.bool false,.int .i64 0]) ?_ rfl ⟨.inr ⟨_,HFN.eq,rfl⟩,HK6.out⟩
          simp [results,Tryz.results81,go_sem,t0,t1,t2,t3,t4,v0,v1,v2,v3,v4]
        ·have tl:(R.l != p.l)=true:=by rw[bne_iff_ne];exact hL
         have HEL:=sealed hL
         clear hL
         have HFN:Fo D a l p none 0:=Fo.mk (HFS2.out (fun hf=>HEL.out (by simp [fits]at hf;exact hf.1)))
         obtain⟨z0,z1,z2,z3,z4⟩:=cell5 HM.out.z
         obtain⟨r0,r1,r2,r3,r4⟩:=cell5 HM.out.r
         obtain⟨p0,p1,p2,p3,p4⟩:=cell5 HM.out.p
         obtain⟨q0,q1,q2,q3,q4⟩:=cell5 HM.out.q
         have fr:=HM.out.r.frozen
         have fq:=HM.out.q.frozen
         have fr0:=fr 0
         have fr1:=fr 1
         have fr2:=fr 2
         have fr3:=fr 3
         have fr4:=fr 4
         have HBA:=hide ((put5 (.int .i64 0) (.int .i64 0) (.int .i64 0) (.slice none 0 0) (.slice none 0 0) HM.out.r).drew)
         have HKA:=hide ((put5_kept (g:=g6) (S:=[g6]) (.int .i64 0) (.int .i64 0) (.int .i64 0) (.slice none 0 0) (.slice none 0 0) (Kept.refl [g6] w10) (.inl (by simp))).drew)
         clear fr fq
         go_wp2
         refine wp_region_noPanic ?_
         refine wp_region_held_drew (S:=fun W=>True∧(W.cell? ⟨g10,0,none⟩=some (.int .i64 0)∧W.cell? ⟨g10,1,none⟩=some (.int .i64 0)∧W.cell? ⟨g10,2,none⟩=some (.int .i64 0)∧W.cell? ⟨g10,3,none⟩=some (.slice none 0 0)∧W.cell? ⟨g10,4,none⟩=some (.slice none 0 0))∧W.cell? ⟨b5,0,none⟩=some (.int .i64 p.s)∧W.cell? ⟨b5,1,none⟩=some (.int .i64 p.o)∧W.cell? ⟨b5,2,none⟩=some (.int .i64 p.l)∧W.cell? ⟨b5,3,none⟩=some (.int .i64 p.v)∧W.cell? ⟨b5,4,none⟩=some (.int .i64 p.m)) (by kernel_rfl) (by exact⟨trivial,⟨z0,z1,z2,z3,z4⟩,p0,p1,p2,p3,p4⟩) (fun hHeld=> ?_)
         refine tK 0 113 rfl ?_
         try simp only[Act.put,pA,pB,pC]
         refine tK 1 114 rfl ?_
         try simp only[Act.put,pA,pB,pC]
         refine hO 2 none rfl fun K hK=> ?_
         go_simp
         generalize (World.setCell (World.setCell (World.setCell (World.setCell (World.setCell w10 ⟨g6,0,none⟩ (.int .i64 0)) ⟨g6,1,none⟩ (.int .i64 0)) ⟨g6,2,none⟩ (.int .i64 0)) ⟨g6,3,none⟩ (.slice none 0 0)) ⟨g6,4,none⟩ (.slice none 0 0)).drew=wA at HBA HKA ⊢
         obtain⟨z0,z1,z2,z3,z4⟩:=cell5 (HKA.out.blk HM.out.z (by have:=HSEP.out;simp;omega))
         obtain⟨p0,p1,p2,p3,p4⟩:=cell5 (HKA.out.blk HM.out.p (by have:=HSEP.out;simp;omega))
         have hqa:=HKA.out.blk HM.out.q (by have:=HSEP.out;simp;omega)
         have HQA:=hide hqa
         obtain⟨q0,q1,q2,q3,q4⟩:=cell5 hqa
         have fq0:=hqa.frozen 0
         have fq1:=hqa.frozen 1
         have fq2:=hqa.frozen 2
         have fq3:=hqa.frozen 3
         have fq4:=hqa.frozen 4
         have HBB:=hide (put5 (.int .i64 p.s) (.int .i64 p.o) (.int .i64 p.l) (.int .i64 p.v) (.int .i64 p.m) HQA.out)
         have HKB:=hide (put5_kept (g:=g7) (S:=[g7]) (.int .i64 p.s) (.int .i64 p.o) (.int .i64 p.l) (.int .i64 p.v) (.int .i64 p.m) (Kept.refl [g7] wA) (.inl (by simp)))
         clear hqa
         refine hK.out _ _ (by exact⟨trivial,⟨z0,z1,z2,z3,z4⟩,p0,p1,p2,p3,p4⟩) (fun hHeld=> ?_)
         clear hK K
         try simp only[Act.put,pA,pB,pC]
         refine hO 3 none rfl fun K hK=> ?_
         go_simp
         generalize (World.setCell (World.setCell (World.setCell (World.setCell (World.setCell wA ⟨g7,0,none⟩ (.int .i64 p.s)) ⟨g7,1,none⟩ (.int .i64 p.o)) ⟨g7,2,none⟩ (.int .i64 p.l)) ⟨g7,3,none⟩ (.int .i64 p.v)) ⟨g7,4,none⟩ (.int .i64 p.m))=wB at HBB HKB ⊢
         have HRB:=hide (HKB.out.blk HBA.out (by have:=HSEP.out;simp;omega))
         have HK6:=hide ((HK.out.trans HKA.out (fun i hi=>by simp at hi;subst hi;have:=HSEP.out;exact .inr (by omega))).trans HKB.out (fun i hi=>by simp at hi;subst hi;have:=HSEP.out;exact .inr (by omega)))
         obtain⟨z0,z1,z2,z3,z4⟩:=cell5 (HKB.out.blk (HKA.out.blk HM.out.z (by have:=HSEP.out;simp;omega)) (by have:=HSEP.out;simp;omega))
         obtain⟨p0,p1,p2,p3,p4⟩:=cell5 (HKB.out.blk (HKA.out.blk HM.out.p (by have:=HSEP.out;simp;omega)) (by have:=HSEP.out;simp;omega))
         refine hK.out _ _ (by exact⟨trivial,⟨z0,z1,z2,z3,z4⟩,p0,p1,p2,p3,p4⟩) (fun hHeld=> ?_)
         clear hK K
         try simp only[Act.put,pA,pB,pC]
         refine tK 4 8 rfl ?_
         try simp only[Act.put,pA,pB,pC]
         refine tK 5 9 rfl ?_
         try simp only[Act.put,pA,pB,pC]
         refine wpAnyH_done (by kernel_rfl) ?_ _
         refine NoPanic.normal ?_
         go_wp2
         obtain⟨t0,t1,t2,t3,t4⟩:=cell5 HRB.out
         obtain⟨v0,v1,v2,v3,v4⟩:=cell5 HBB.out
         refine bodyPost_ret (v:= .tuple #[.agg #[.int .i64 0,.int .i64 0,.int .i64 0,.slice none 0 0,.slice none 0 0],.agg #[.int .i64 p.s,.int .i64 p.o,.int .i64 p.l,.int .i64 p.v,.int .i64 p.m],.bool false,.int .i64 0]) ?_ rfl ⟨.inr ⟨_,HFN.eq,rfl⟩,HK6.out⟩
         simp [results,Tryz.results81,go_sem,t0,t1,t2,t3,t4,v0,v1,v2,v3,v4]
       ·have t3:(e3 != 0)=true:=by rw[bne_iff_ne];exact he3
        have HE3:=sealed he3
        clear he3
        have HFN:Fo D a l p none 0:=Fo.mk (HFS2.out (fun hf=>HE3.out hf.1))
        obtain⟨z0,z1,z2,z3,z4⟩:=cell5 HM.out.z
        obtain⟨r0,r1,r2,r3,r4⟩:=cell5 HM.out.r
        obtain⟨p0,p1,p2,p3,p4⟩:=cell5 HM.out.p
        obtain⟨q0,q1,q2,q3,q4⟩:=cell5 HM.out.q
        have fr:=HM.out.r.frozen
        have fq:=HM.out.q.frozen
        have fr0:=fr 0
        have fr1:=fr 1
        have fr2:=fr 2
        have fr3:=fr 3
        have fr4:=fr 4
        have HBA:=hide ((put5 (.int .i64 0) (.int .i64 0) (.int .i64 0) (.slice none 0 0) (.slice none 0 0) HM.out.r).drew)
        have HKA:=hide ((put5_kept (g:=g6) (S:=[g6]) (.int .i64 0) (.int .i64 0) (.int .i64 0) (.slice none 0 0) (.slice none 0 0) (Kept.refl [g6] w10) (.inl (by simp))).drew)
        clear fr fq
        go_wp2
        refine wp_region_noPanic ?_
        refine wp_region_held_drew (S:=fun W=>True∧(W.cell? ⟨g10,0,none⟩=some (.int .i64 0)∧W.cell? ⟨g10,1,none⟩=some (.int .i64 0)∧W.cell? ⟨g10,2,none⟩=some (.int .i64 0)∧W.cell? ⟨g10,3,none⟩=some (.slice none 0 0)∧W.cell? ⟨g10,4,none⟩=some (.slice none 0 0))∧W.cell? ⟨b5,0,none⟩=some (.int .i64 p.s)∧W.cell? ⟨b5,1,none⟩=some (.int .i64 p.o)∧W.cell? ⟨b5,2,none⟩=some (.int .i64 p.l)∧W.cell? ⟨b5,3,none⟩=some (.int .i64 p.v)∧W.cell? ⟨b5,4,none⟩=some (.int .i64 p.m)) (by kernel_rfl) (by exact⟨trivial,⟨z0,z1,z2,z3,z4⟩,p0,p1,p2,p3,p4⟩) (fun hHeld=> ?_)
        refine tK 0 113 rfl ?_
        try simp only[Act.put,pA,pB,pC]
        refine tK 1 114 rfl ?_
        try simp only[Act.put,pA,pB,pC]
        refine hO 2 none rfl fun K hK=> ?_
        go_simp
        generalize (World.setCell (World.setCell (World.setCell (World.setCell (World.setCell w10 ⟨g6,0,none⟩ (.int .i64 0)) ⟨g6,1,none⟩ (.int .i64 0)) ⟨g6,2,none⟩ (.int .i64 0)) ⟨g6,3,none⟩ (.slice none 0 0)) ⟨g6,4,none⟩ (.slice none 0 0)).drew=wA at HBA HKA ⊢
        obtain⟨z0,z1,z2,z3,z4⟩:=cell5 (HKA.out.blk HM.out.z (by have:=HSEP.out;simp;omega))
        obtain⟨p0,p1,p2,p3,p4⟩:=cell5 (HKA.out.blk HM.out.p (by have:=HSEP.out;simp;omega))
        have hqa:=HKA.out.blk HM.out.q (by have:=HSEP.out;simp;omega)
        have HQA:=hide hqa
        obtain⟨q0,q1,q2,q3,q4⟩:=cell5 hqa
        have fq0:=hqa.frozen 0
        have fq1:=hqa.frozen 1
        have fq2:=hqa.frozen 2
        have fq3:=hqa.frozen 3
        have fq4:=hqa.frozen 4
        have HBB:=hide (put5 (.int .i64 p.s) (.int .i64 p.o) (.int .i64 p.l) (.int .i64 p.v) (.int .i64 p.m) HQA.out)
        have HKB:=hide (put5_kept (g:=g7) (S:=[g7]) (.int .i64 p.s) (.int .i64 p.o) (.int .i64 p.l) (.int .i64 p.v) (.int .i64 p.m) (Kept.refl [g7] wA) (.inl (by simp)))
        clear hqa
        refine hK.out _ _ (by exact⟨trivial,⟨z0,z1,z2,z3,z4⟩,p0,p1,p2,p3,p4⟩) (fun hHeld=> ?_)
        clear hK K
        try simp only[Act.put,pA,pB,pC]
        refine hO 3 none rfl fun K hK=> ?_
        go_simp
        generalize (World.setCell (World.setCell (World.setCell (World.setCell (World.setCell wA ⟨g7,0,none⟩ (.int .i64 p.s)) ⟨g7,1,none⟩ (.int .i64 p.o)) ⟨g7,2,none⟩ (.int .i64 p.l)) ⟨g7,3,none⟩ (.int .i64 p.v)) ⟨g7,4,none⟩ (.int .i64 p.m))=wB at HBB HKB ⊢
        have HRB:=hide (HKB.out.blk HBA.out (by have:=HSEP.out;simp;omega))
        have HK6:=hide ((HK.out.trans HKA.out (fun i hi=>by simp at hi;subst hi;have:=HSEP.out;exact .inr (by omega))).trans HKB.out (fun i hi=>by simp at hi;subst hi;have:=HSEP.out;exact .inr (by omega)))
        obtain⟨z0,z1,z2,z3,z4⟩:=cell5 (HKB.out.blk (HKA.out.blk HM.out.z (by have:=HSEP.out;simp;omega)) (by have:=HSEP.out;simp;omega))
        obtain⟨p0,p1,p2,p3,p4⟩:=cell5 (HKB.out.blk (HKA.out.blk HM.out.p (by have:=HSEP.out;simp;omega)) (by have:=HSEP.out;simp;omega))
        refine hK.out _ _ (by exact⟨trivial,⟨z0,z1,z2,z3,z4⟩,p0,p1,p2,p3,p4⟩) (fun hHeld=> ?_)
        clear hK K
        try simp only[Act.put,pA,pB,pC]
        refine tK 4 8 rfl ?_
        try simp only[Act.put,pA,pB,pC]
        refine tK 5 9 rfl ?_
        try simp only[Act.put,pA,pB,pC]
        refine wpAnyH_done (by kernel_rfl) ?_ _
        refine NoPanic.normal ?_
        go_wp2
        obtain⟨t0,t1,t2,t3,t4⟩:=cell5 HRB.out
        obtain⟨v0,v1,v2,v3,v4⟩:=cell5 HBB.out
        refine bodyPost_ret (v:= .tuple #[.agg #[.int .i64 0,.int .i64 0,.int .i64 0,.slice none 0 0,.slice none 0 0],.agg #[.int .i64 p.s,.int .i64 p.o,.int .i64 p.l,.int .i64 p.v,.int .i64 p.m],.bool false,.int .i64 0]) ?_ rfl ⟨.inr ⟨_,HFN.eq,rfl⟩,HK6.out⟩
        simp [results,Tryz.results81,go_sem,t0,t1,t2,t3,t4,v0,v1,v2,v3,v4]
  ·have t0:(e1 != 0)=true:=by rw[bne_iff_ne];exact he1
   have HFN:Fo D a l p none e1:=Fo.mk (by
    unfold follow
    rw[if_neg (by have:=HO.out;omega),HR1.out,if_pos he1])
   obtain⟨z0,z1,z2,z3,z4⟩:=cell5 HM.out.z
   obtain⟨r0,r1,r2,r3,r4⟩:=cell5 HM.out.r
   obtain⟨p0,p1,p2,p3,p4⟩:=cell5 HM.out.p
   obtain⟨q0,q1,q2,q3,q4⟩:=cell5 HM.out.q
   have fr:=HM.out.r.frozen
   have fq:=HM.out.q.frozen
   have fr0:=fr 0
   have fr1:=fr 1
   have fr2:=fr 2
   have fr3:=fr 3
   have fr4:=fr 4
   have HBA:=hide ((put5 (.int .i64 0) (.int .i64 0) (.int .i64 0) (.slice none 0 0) (.slice none 0 0) HM.out.r).drew)
   have HKA:=hide ((put5_kept (g:=g6) (S:=[g6]) (.int .i64 0) (.int .i64 0) (.int .i64 0) (.slice none 0 0) (.slice none 0 0) (Kept.refl [g6] w7) (.inl (by simp))).drew)
   clear fr fq
   go_wp2
   refine wp_region_noPanic ?_
   refine wp_region_held_drew (S:=fun W=>True∧(W.cell? ⟨g10,0,none⟩=some (.int .i64 0)∧W.cell? ⟨g10,1,none⟩=some (.int .i64 0)∧W.cell? ⟨g10,2,none⟩=some (.int .i64 0)∧W.cell? ⟨g10,3,none⟩=some (.slice none 0 0)∧W.cell? ⟨g10,4,none⟩=some (.slice none 0 0))∧W.cell? ⟨b5,0,none⟩=some (.int .i64 p.s)∧W.cell? ⟨b5,1,none⟩=some (.int .i64 p.o)∧W.cell? ⟨b5,2,none⟩=some (.int .i64 p.l)∧W.cell? ⟨b5,3,none⟩=some (.int .i64 p.v)∧W.cell? ⟨b5,4,none⟩=some (.int .i64 p.m)) (by kernel_rfl) (by exact⟨trivial,⟨z0,z1,z2,z3,z4⟩,p0,p1,p2,p3,p4⟩) (fun hHeld=> ?_)
   refine tK 0 45 rfl ?_
   try simp only[Act.put,pA,pB,pC]
   refine tK 1 46 rfl ?_
   try simp only[Act.put,pA,pB,pC]
   refine tK 2 47 rfl ?_
   try simp only[Act.put,pA,pB,pC]
   refine hO 3 none rfl fun K hK=> ?_
   go_simp
   generalize (World.setCell (World.setCell (World.setCell (World.setCell (World.setCell w7 ⟨g6,0,none⟩ (.int .i64 0)) ⟨g6,1,none⟩ (.int .i64 0)) ⟨g6,2,none⟩ (.int .i64 0)) ⟨g6,3,none⟩ (.slice none 0 0)) ⟨g6,4,none⟩ (.slice none 0 0)).drew=wA at HBA HKA ⊢
   obtain⟨z0,z1,z2,z3,z4⟩:=cell5 (HKA.out.blk HM.out.z (by have:=HSEP.out;simp;omega))
   obtain⟨p0,p1,p2,p3,p4⟩:=cell5 (HKA.out.blk HM.out.p (by have:=HSEP.out;simp;omega))
   have hqa:=HKA.out.blk HM.out.q (by have:=HSEP.out;simp;omega)
   have HQA:=hide hqa
   obtain⟨q0,q1,q2,q3,q4⟩:=cell5 hqa
   have fq0:=hqa.frozen 0
   have fq1:=hqa.frozen 1
   have fq2:=hqa.frozen 2
   have fq3:=hqa.frozen 3
   have fq4:=hqa.frozen 4
   have HBB:=hide (put5 (.int .i64 p.s) (.int .i64 p.o) (.int .i64 p.l) (.int .i64 p.v) (.int .i64 p.m) HQA.out)
   have HKB:=hide (put5_kept (g:=g7) (S:=[g7]) (.int .i64 p.s) (.int .i64 p.o) (.int .i64 p.l) (.int .i64 p.v) (.int .i64 p.m) (Kept.refl [g7] wA) (.inl (by simp)))
   clear hqa
   refine hK.out _ _ (by exact⟨trivial,⟨z0,z1,z2,z3,z4⟩,p0,p1,p2,p3,p4⟩) (fun hHeld=> ?_)
   clear hK K
   try simp only[Act.put,pA,pB,pC]
   refine hO 4 none rfl fun K hK=> ?_
   go_simp
   generalize (World.setCell (World.setCell (World.setCell (World.setCell (World.setCell wA ⟨g7,0,none⟩ (.int .i64 p.s)) ⟨g7,1,none⟩ (.int .i64 p.o)) ⟨g7,2,none⟩ (.int .i64 p.l)) ⟨g7,3,none⟩ (.int .i64 p.v)) ⟨g7,4,none⟩ (.int .i64 p.m))=wB at HBB HKB ⊢
   have HRB:=hide (HKB.out.blk HBA.out (by have:=HSEP.out;simp;omega))
   have HK6:=hide ((HK.out.trans HKA.out (fun i hi=>by simp at hi;subst hi;have:=HSEP.out;exact .inr (by omega))).trans HKB.out (fun i hi=>by simp at hi;subst hi;have:=HSEP.out;exact .inr (by omega)))
   obtain⟨z0,z1,z2,z3,z4⟩:=cell5 (HKB.out.blk (HKA.out.blk HM.out.z (by have:=HSEP.out;simp;omega)) (by have:=HSEP.out;simp;omega))
   obtain⟨p0,p1,p2,p3,p4⟩:=cell5 (HKB.out.blk (HKA.out.blk HM.out.p (by have:=HSEP.out;simp;omega)) (by have:=HSEP.out;simp;omega))
   refine hK.out _ _ (by exact⟨trivial,⟨z0,z1,z2,z3,z4⟩,p0,p1,p2,p3,p4⟩) (fun hHeld=> ?_)
   clear hK K
   try simp only[Act.put,pA,pB,pC]
   refine tK 5 8 rfl ?_
   try simp only[Act.put,pA,pB,pC]
   refine tK 6 9 rfl ?_
   try simp only[Act.put,pA,pB,pC]
   refine wpAnyH_done (by kernel_rfl) ?_ _
   refine NoPanic.normal ?_
   go_wp2
   obtain⟨t0,t1,t2,t3,t4⟩:=cell5 HRB.out
   obtain⟨v0,v1,v2,v3,v4⟩:=cell5 HBB.out
   refine bodyPost_ret (v:= .tuple #[.agg #[.int .i64 0,.int .i64 0,.int .i64 0,.slice none 0 0,.slice none 0 0],.agg #[.int .i64 p.s,.int .i64 p.o,.int .i64 p.l,.int .i64 p.v,.int .i64 p.m],.bool false,.int .i64 e1]) ?_ rfl ⟨.inr ⟨_,HFN.eq,rfl⟩,HK6.out⟩
   simp [results,Tryz.results81,go_sem,t0,t1,t2,t3,t4,v0,v1,v2,v3,v4]
 ·have HFN:Fo D (geom.segAt s l r q p.s) l p none 0:=Fo.mk (by unfold follow;rw[if_pos (by omega)])
  have HO:=hide ho
  clear ho
  go_wp2_with fail
  refine(within_no p.o 1 (l-1) _ HO.out).mono ?_
  rintro e w6 ⟨rfl,rfl⟩
  clear p0 p1 p2 p3 p4 c0 c1 c2
  obtain⟨z0,z1,z2,z3,z4⟩:=cell5 HM.out.z
  obtain⟨r0,r1,r2,r3,r4⟩:=cell5 HM.out.r
  obtain⟨p0,p1,p2,p3,p4⟩:=cell5 HM.out.p
  obtain⟨q0,q1,q2,q3,q4⟩:=cell5 HM.out.q
  have fr:=HM.out.r.frozen
  have fq:=HM.out.q.frozen
  have fr0:=fr 0
  have fr1:=fr 1
  have fr2:=fr 2
  have fr3:=fr 3
  have fr4:=fr 4
  have HBA:=hide ((put5 (.int .i64 0) (.int .i64 0) (.int .i64 0) (.slice none 0 0) (.slice none 0 0) HM.out.r).drew)
  have HKA:=hide ((put5_kept (g:=g6) (S:=[g6]) (.int .i64 0) (.int .i64 0) (.int .i64 0) (.slice none 0 0) (.slice none 0 0) (Kept.refl [g6] w5) (.inl (by simp))).drew)
  clear fr fq
  go_wp2
  refine wp_region_noPanic ?_
  refine wp_region_held_drew (S:=fun W=>True∧(W.cell? ⟨g10,0,none⟩=some (.int .i64 0)∧W.cell? ⟨g10,1,none⟩=some (.int .i64 0)∧W.cell? ⟨g10,2,none⟩=some (.int .i64 0)∧W.cell? ⟨g10,3,none⟩=some (.slice none 0 0)∧W.cell? ⟨g10,4,none⟩=some (.slice none 0 0))∧W.cell? ⟨b5,0,none⟩=some (.int .i64 p.s)∧W.cell? ⟨b5,1,none⟩=some (.int .i64 p.o)∧W.cell? ⟨b5,2,none⟩=some (.int .i64 p.l)∧W.cell? ⟨b5,3,none⟩=some (.int .i64 p.v)∧W.cell? ⟨b5,4,none⟩=some (.int .i64 p.m)) (by kernel_rfl) (by exact⟨trivial,⟨z0,z1,z2,z3,z4⟩,p0,p1,p2,p3,p4⟩) (fun hHeld=> ?_)
  refine tK 0 28 rfl ?_
  try simp only[Act.put,pA,pB,pC]
  refine tK 1 29 rfl ?_
  try simp only[Act.put,pA,pB,pC]
  refine hO 2 none rfl fun K hK=> ?_
  go_simp
  generalize (World.setCell (World.setCell (World.setCell (World.setCell (World.setCell w5 ⟨g6,0,none⟩ (.int .i64 0)) ⟨g6,1,none⟩ (.int .i64 0)) ⟨g6,2,none⟩ (.int .i64 0)) ⟨g6,3,none⟩ (.slice none 0 0)) ⟨g6,4,none⟩ (.slice none 0 0)).drew=wA at HBA HKA ⊢
  obtain⟨z0,z1,z2,z3,z4⟩:=cell5 (HKA.out.blk HM.out.z (by have:=HSEP.out;simp;omega))
  obtain⟨p0,p1,p2,p3,p4⟩:=cell5 (HKA.out.blk HM.out.p (by have:=HSEP.out;simp;omega))
  have hqa:=HKA.out.blk HM.out.q (by have:=HSEP.out;simp;omega)
  have HQA:=hide hqa
  obtain⟨q0,q1,q2,q3,q4⟩:=cell5 hqa
  have fq0:=hqa.frozen 0
  have fq1:=hqa.frozen 1
  have fq2:=hqa.frozen 2
  have fq3:=hqa.frozen 3
  have fq4:=hqa.frozen 4
  have HBB:=hide (put5 (.int .i64 p.s) (.int .i64 p.o) (.int .i64 p.l) (.int .i64 p.v) (.int .i64 p.m) HQA.out)
  have HKB:=hide (put5_kept (g:=g7) (S:=[g7]) (.int .i64 p.s) (.int .i64 p.o) (.int .i64 p.l) (.int .i64 p.v) (.int .i64 p.m) (Kept.refl [g7] wA) (.inl (by simp)))
  clear hqa
  refine hK.out _ _ (by exact⟨trivial,⟨z0,z1,z2,z3,z4⟩,p0,p1,p2,p3,p4⟩) (fun hHeld=> ?_)
  clear hK K
  try simp only[Act.put,pA,pB,pC]
  refine hO 3 none rfl fun K hK=> ?_
  go_simp
  generalize (World.setCell (World.setCell (World.setCell (World.setCell (World.setCell wA ⟨g7,0,none⟩ (.int .i64 p.s)) ⟨g7,1,none⟩ (.int .i64 p.o)) ⟨g7,2,none⟩ (.int .i64 p.l)) ⟨g7,3,none⟩ (.int .i64 p.v)) ⟨g7,4,none⟩ (.int .i64 p.m))=wB at HBB HKB ⊢
  have HRB:=hide (HKB.out.blk HBA.out (by have:=HSEP.out;simp;omega))
  have HK6:=hide ((HK.out.trans HKA.out (fun i hi=>by simp at hi;subst hi;have:=HSEP.out;exact .inr (by omega))).trans HKB.out (fun i hi=>by simp at hi;subst hi;have:=HSEP.out;exact .inr (by omega)))
  obtain⟨z0,z1,z2,z3,z4⟩:=cell5 (HKB.out.blk (HKA.out.blk HM.out.z (by have:=HSEP.out;simp;omega)) (by have:=HSEP.out;simp;omega))
  obtain⟨p0,p1,p2,p3,p4⟩:=cell5 (HKB.out.blk (HKA.out.blk HM.out.p (by have:=HSEP.out;simp;omega)) (by have:=HSEP.out;simp;omega))
  refine hK.out _ _ (by exact⟨trivial,⟨z0,z1,z2,z3,z4⟩,p0,p1,p2,p3,p4⟩) (fun hHeld=> ?_)
  clear hK K
  try simp only[Act.put,pA,pB,pC]
  refine tK 4 8 rfl ?_
  try simp only[Act.put,pA,pB,pC]
  refine tK 5 9 rfl ?_
  try simp only[Act.put,pA,pB,pC]
  refine wpAnyH_done (by kernel_rfl) ?_ _
  refine NoPanic.normal ?_
  go_wp2
  obtain⟨t0,t1,t2,t3,t4⟩:=cell5 HRB.out
  obtain⟨v0,v1,v2,v3,v4⟩:=cell5 HBB.out
  refine bodyPost_ret (v:= .tuple #[.agg #[.int .i64 0,.int .i64 0,.int .i64 0,.slice none 0 0,.slice none 0 0],.agg #[.int .i64 p.s,.int .i64 p.o,.int .i64 p.l,.int .i64 p.v,.int .i64 p.m],.bool false,.int .i64 0]) ?_ rfl ⟨.inr ⟨_,HFN.eq,rfl⟩,HK6.out⟩
  simp [results,Tryz.results81,go_sem,t0,t1,t2,t3,t4,v0,v1,v2,v3,v4]
end Go.Proofs.YtjkmahmoclobmaaGreat.sc
