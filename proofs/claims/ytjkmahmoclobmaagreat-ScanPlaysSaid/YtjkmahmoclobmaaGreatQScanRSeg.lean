import Derived.Test.YtjkmahmoclobmaaGreatQScanRScan
namespace Go.Proofs.YtjkmahmoclobmaaGreat.sc
set_option linter.unusedSimpArgs false
set_option linter.unusedVariables false
open Go.RowKit mem base disk owns
open record (Rc RcIn RcAt put5 put5_kept cell5)
open item (It Items)
set_option maxRecDepth 100000 in
set_option maxHeartbeats 4000000 in
theorem rsegment_any (Q G:List Nat)(rd:Nat)(D:Dk)(b s l r q i:Int)(w:World)(h:RD w G rd D)(hb:D.acts≤1000000)(hf:geom.Rf b s l r q)(hi:0≤i∧i≤s-1)(hQ:∀ x∈Q,x<w.heap.size)(L:List (Ps×Rc))(E:Ps)(err:Int)(hsc:scanOf D (geom.segAt s l r q i) l ⟨i,0,0,0,0⟩ true=(L,E,err)):
  Calls Tryz.prog 27 #[.pointer (some ⟨rd,0,none⟩),.agg #[.int .i64 b,.int .i64 s,.int .i64 l],.int .i64 i] w fun e w'=>RScanOut w' e Q L E err∧Kept [] w w':=by
 obtain⟨b5,hb5⟩:∃ b5,w.heap.size=b5:=⟨_,rfl⟩
 obtain⟨w1,hw1⟩:∃ w1,w.alloc (.cells #[.int .i64 b,.int .i64 s,.int .i64 l] 29)=w1:=⟨_,rfl⟩
 obtain⟨w2,hw2⟩:∃ w2,w1.alloc (.cells #[.int .i64 0,.int .i64 0,.int .i64 0,.int .i64 0,.int .i64 0] 24)=w2:=⟨_,rfl⟩
 obtain⟨b9,hb9⟩:∃ b9,w1.heap.size=b9:=⟨_,rfl⟩
 have k1:Kept [] w w1:=by rw[←hw1];exact(Kept.refl [] w).alloc _
 have k2:Kept [] w1 w2:=by rw[←hw2];exact(Kept.refl [] w1).alloc _
 have m1:Blk w1 b5 29 #[.int .i64 b,.int .i64 s,.int .i64 l]:=by rw[←hw1,←hb5];exact Blk.new w _ _
 have m2:Blk w2 b9 24 #[.int .i64 0,.int .i64 0,.int .i64 0,.int .i64 0,.int .i64 0]:=by rw[←hw2,←hb9];exact Blk.new w1 _ _
 have HC:=hide (k2.blk m1 (by simp))
 have HR:=hide m2
 have HK:=hide (k1.trans k2 (by simp))
 have HSP:=hide (show w.heap.size≤b5∧b5<b9 by have a1:=m1.lt;omega)
 have HD:=hide (h.kept HK.out (by simp))
 have HOK:=hide h.1
 have HGL:=hide h.lt
 have HF:=hide hf
 have HQ:=hide hQ
 have HAC:=hide hb
 have HS:=hide hi
 obtain⟨c0,c1,c2⟩:w2.cell? ⟨b5,0,none⟩=some (.int .i64 b)∧w2.cell? ⟨b5,1,none⟩=some (.int .i64 s)∧w2.cell? ⟨b5,2,none⟩=some (.int .i64 l):=⟨HC.out.cell 0,HC.out.cell 1,HC.out.cell 2⟩
 have hok:=hf.ok
 unfold geom.Ok at hok
 obtain⟨a,haa⟩:∃ a,geom.segAt s l r q i=a:=⟨_,rfl⟩
 have hbd:0≤a∧a≤2500:=by rw[←haa];exact seg_bd2 HF.out HS.out
 have HAA:=hide haa
 rw[haa]at hsc
 have HSC:=sealed hsc
 clear k1 k2 m1 m2 h hf hQ hb hsc haa hi
 go_enter Tryz.func27,Tryz.ntmps27
 go_wp2_with fail
 refine(geom.rsegAt b s l r q i _ HF.out).mono ?_
 rintro e w6 ⟨rfl,hk6⟩
 rw[HAA.out]
 have HC6:=hide (hk6.blk HC.out (by simp))
 have HR6:=hide (hk6.blk HR.out (by simp))
 have HK6:=hide (HK.out.trans hk6 (by simp))
 have HD6:=hide (HD.out.kept hk6 (by simp))
 clear hk6 HC HR HK HD c0 c1 c2
 go_wp2_with fail
 refine(rread_own rd G D a _ HD6.out HAC.out).mono ?_
 rintro e w7 ⟨⟨A1,n1,rfl,hf1,_⟩,hk7⟩
 have HF1:=hide hf1
 have kA:Kept [] w7 (w7.alloc (.cells #[.int .i64 i,.int .i64 0,.int .i64 0,.int .i64 0,.int .i64 0] 24)):=(Kept.refl [] w7).alloc _
 have hlt9:b9<w7.heap.size:=(hk7.blk HR6.out (by simp)).lt
 have HSEP:=hide (show w.heap.size≤b5∧b5<b9∧b9<w7.heap.size from⟨HSP.out.1,HSP.out.2,hlt9⟩)
 have HM:=hide (SM.mk (p:=⟨i,0,0,0,0⟩) (kA.blk (hk7.blk HC6.out (by simp)) (by simp)) (Blk.new w7 _ _) (kA.blk (hk7.blk HR6.out (by simp)) (by simp)))
 have HK:=hide ((HK6.out.trans hk7 (by simp)).trans kA (by simp))
 have HD:=hide ((HD6.out.kept hk7 (by simp)).kept kA (by simp))
 have hl64:=read_len64 D HOK.out a
 obtain⟨⟨e1,b1⟩,hr1⟩:∃ y,D.read a=y:=⟨_,rfl⟩
 have HR1:=sealed hr1
 rw[hr1]at HF1 hl64 ⊢
 clear hr1 hf1 hk7 HC6 HR6 HK6 HD6 HSP hlt9
 dsimp only at HF1 hl64 ⊢
 have HSTART:Seal (start D a l ⟨i,0,0,0,0⟩ true=if (hd.decode b1).2=0 then(some ⟨i,1,(hd.decode b1).1.l,(hd.decode b1).1.v,(hd.decode b1).1.m⟩,e1)else(none,e1)):=sealed (by
  unfold start
  rw[if_neg (by simp),if_neg (by omega),HR1.out]
  by_cases hft:(hd.decode b1).2=0
  ·rw[if_pos ⟨hft,.inl rfl⟩,if_pos hft]
  ·rw[if_neg (fun h=>hft h.1),if_neg hft])
 by_cases he1:e1=0
 ·subst he1
  rw[if_pos rfl]at hl64
  have t0:((0:Int) != 0)=false:=rfl
  have hrof:=hd.rof_any A1 64 n1 b1 (w7.alloc (.cells #[.int .i64 i,.int .i64 0,.int .i64 0,.int .i64 0,.int .i64 0] 24)) (by rw[hl64]at HF1;exact HF1.out.vals.kept kA (by simp)) hl64 (by rw[hl64]at HF1;exact HF1.out.2.1) (by omega)
  obtain⟨⟨H,e2⟩,hde⟩:∃ y,hd.decode b1=y:=⟨_,rfl⟩
  rw[hde]at hrof HSTART
  unfold hd.Hd.val at hrof
  have HRO:=hide hrof
  dsimp only at HSTART
  rw[hl64]at HF1 ⊢
  clear hrof hde hl64 kA
  go_wp2_with fail
  refine HRO.out.mono ?_
  rintro e w8 ⟨rfl,hk8⟩
  have kB:Kept [] w8 (w8.alloc (.cells #[.int .i64 H.g,.int .i64 H.m,.int .i64 H.l,.int .i64 H.v] 127)):=(Kept.refl [] w8).alloc _
  have hbh:Blk (w8.alloc (.cells #[.int .i64 H.g,.int .i64 H.m,.int .i64 H.l,.int .i64 H.v] 127)) w8.heap.size 127 #[.int .i64 H.g,.int .i64 H.m,.int .i64 H.l,.int .i64 H.v]:=Blk.new w8 _ _
  have HBH:=hide hbh
  have HM2:=hide ((HM.out.kept hk8).kept kB)
  have HK2:=hide ((HK.out.trans hk8 (by simp)).trans kB (by simp))
  have HD2:=hide ((HD.out.kept hk8 (by simp)).kept kB (by simp))
  clear HM HK HD hk8 kB hbh HRO
  have HM:=HM2
  have HK:=HK2
  have HD:=HD2
  clear HM2 HK2 HD2
  by_cases he2:e2=0
  ·subst he2
   have t1:((0:Int) != 0)=false:=rfl
   rw[if_pos rfl]at HSTART
   have HSC2:Seal (scanOf D (ofSeg none s l r q i).2.1 (ofSeg none s l r q i).2.2 ⟨i,1,H.l,H.v,H.m⟩ false=(L,E,err)):=sealed (by
    have h1:=HSC.out
    unfold scanOf at h1 ⊢
    rw[HSTART.out]at h1
    unfold ofSeg start
    rw[if_pos HS.out]
    dsimp only
    rw[if_pos (by simp),show geom.segAt s l r q i=a from HAA.out]
    exact h1)
   obtain⟨c0,c1,c2⟩:(w8.alloc (.cells #[.int .i64 H.g,.int .i64 H.m,.int .i64 H.l,.int .i64 H.v] 127)).cell? ⟨b5,0,none⟩=some (.int .i64 b)∧(w8.alloc (.cells #[.int .i64 H.g,.int .i64 H.m,.int .i64 H.l,.int .i64 H.v] 127)).cell? ⟨b5,1,none⟩=some (.int .i64 s)∧(w8.alloc (.cells #[.int .i64 H.g,.int .i64 H.m,.int .i64 H.l,.int .i64 H.v] 127)).cell? ⟨b5,2,none⟩=some (.int .i64 l):=⟨HM.out.c.cell 0,HM.out.c.cell 1,HM.out.c.cell 2⟩
   have d1:(w8.alloc (.cells #[.int .i64 H.g,.int .i64 H.m,.int .i64 H.l,.int .i64 H.v] 127)).cell? ⟨w8.heap.size,1,none⟩=some (.int .i64 H.m):=HBH.out.cell 1
   have d2:(w8.alloc (.cells #[.int .i64 H.g,.int .i64 H.m,.int .i64 H.l,.int .i64 H.v] 127)).cell? ⟨w8.heap.size,2,none⟩=some (.int .i64 H.l):=HBH.out.cell 2
   have d3:(w8.alloc (.cells #[.int .i64 H.g,.int .i64 H.m,.int .i64 H.l,.int .i64 H.v] 127)).cell? ⟨w8.heap.size,3,none⟩=some (.int .i64 H.v):=HBH.out.cell 3
   have HSCAN:=hide (rscan_any (b9::Q) G rd D b s l r q ⟨i,1,H.l,H.v,H.m⟩ (w8.alloc (.cells #[.int .i64 H.g,.int .i64 H.m,.int .i64 H.l,.int .i64 H.v] 127)) HD.out HAC.out HF.out (fun x hx=>by
    rcases List.mem_cons.1 hx with rfl|hx
    ·exact HM.out.r.lt
    ·exact Nat.lt_of_lt_of_le (HQ.out x hx) HK.out.size) L E err HSC2.out)
   dsimp only at HSCAN
   go_wp2_with fail
   refine HSCAN.out.mono ?_
   rintro e w9 ⟨⟨A,c,xs,rfl,hv,hfx⟩,hk9⟩
   have hb9:=hk9.blk HM.out.r (by simp)
   have HV:=hide hv
   have HX:=hide hfx
   have HK9:=hide (HK.out.trans hk9 (by simp))
   obtain⟨r0,r1,r2,r3,r4⟩:=cell5 hb9
   have fr:=hb9.frozen
   have fr0:=fr 0
   have fr1:=fr 1
   have fr2:=fr 2
   have fr3:=fr 3
   have fr4:=fr 4
   have HBA:=hide (put5 (.int .i64 E.s) (.int .i64 E.o) (.int .i64 E.l) (.int .i64 E.v) (.int .i64 E.m) hb9)
   have HKA:=hide (put5_kept (g:=b9) (S:=[b9]) (.int .i64 E.s) (.int .i64 E.o) (.int .i64 E.l) (.int .i64 E.v) (.int .i64 E.m) (Kept.refl [b9] w9) (.inl (by simp)))
   clear hb9 fr hv hfx hk9 HSCAN c0 c1 c2 d1 d2 d3 HM HK HD HBH
   go_wp2
   generalize World.setCell (World.setCell (World.setCell (World.setCell (World.setCell w9 ⟨b9,0,none⟩ (.int .i64 E.s)) ⟨b9,1,none⟩ (.int .i64 E.o)) ⟨b9,2,none⟩ (.int .i64 E.l)) ⟨b9,3,none⟩ (.int .i64 E.v)) ⟨b9,4,none⟩ (.int .i64 E.m)=wA at HBA HKA ⊢
   obtain⟨v0,v1,v2,v3,v4⟩:=cell5 HBA.out
   have HKZ:=hide (HK9.out.trans HKA.out (fun i hi=>by simp at hi;subst hi;have:=HSEP.out;exact .inr (by omega)))
   refine bodyPost_ret (v:= .tuple #[.slice A L.length c,.agg #[.int .i64 E.s,.int .i64 E.o,.int .i64 E.l,.int .i64 E.v,.int .i64 E.m],.int .i64 err]) ?_ rfl ⟨⟨A,c,xs,rfl,(HV.out.kept HKA.out (fun i hi=>by simp at hi;simp [hi])).mono (fun i hi=>by simp [hi]),(HX.out.kept HKA.out (fun i hi=>by simp at hi;simp [hi])).away (fun i hi=> .inl (by simp [hi]))⟩,HKZ.out⟩
   simp [results,Tryz.results27,go_sem,v0,v1,v2,v3,v4]
  ·have t1:(e2 != 0)=true:=bne_iff_ne.2 he2
   have HE0:=hide (show L=[]∧E=⟨i,0,0,0,0⟩∧err=0 by
    have h1:=HSC.out
    unfold scanOf at h1
    rw[HSTART.out,if_neg he2]at h1
    injection h1 with h2 h3
    injection h3 with h4 h5
    exact⟨h2.symm,h4.symm,h5.symm⟩)
   clear he2
   obtain⟨p0,p1,p2,p3,p4⟩:=cell5 HM.out.p
   obtain⟨r0,r1,r2,r3,r4⟩:=cell5 HM.out.r
   have fr:=HM.out.r.frozen
   have fr0:=fr 0
   have fr1:=fr 1
   have fr2:=fr 2
   have fr3:=fr 3
   have fr4:=fr 4
   have HBA:=hide ((put5 (.int .i64 i) (.int .i64 0) (.int .i64 0) (.int .i64 0) (.int .i64 0) HM.out.r).drew)
   have HKA:=hide ((put5_kept (g:=b9) (S:=[b9]) (.int .i64 i) (.int .i64 0) (.int .i64 0) (.int .i64 0) (.int .i64 0) (Kept.refl [b9] (w8.alloc (.cells #[.int .i64 H.g,.int .i64 H.m,.int .i64 H.l,.int .i64 H.v] 127))) (.inl (by simp))).drew)
   clear fr
   go_wp2
   refine wp_region_noPanic ?_
   refine wp_region_held_drew (S:=fun W=>True∧W.cell? ⟨w7.heap.size,0,none⟩=some (.int .i64 i)∧W.cell? ⟨w7.heap.size,1,none⟩=some (.int .i64 0)∧W.cell? ⟨w7.heap.size,2,none⟩=some (.int .i64 0)∧W.cell? ⟨w7.heap.size,3,none⟩=some (.int .i64 0)∧W.cell? ⟨w7.heap.size,4,none⟩=some (.int .i64 0)) (by kernel_rfl) (by exact⟨trivial,p0,p1,p2,p3,p4⟩) (fun hHeld=> ?_)
   refine tK 0 35 rfl ?_
   try simp only[Act.put,pA,pB,pC]
   refine tK 1 6 rfl ?_
   try simp only[Act.put,pA,pB,pC]
   refine hO 2 none rfl fun K hK=> ?_
   go_simp
   generalize (World.setCell (World.setCell (World.setCell (World.setCell (World.setCell (w8.alloc (.cells #[.int .i64 H.g,.int .i64 H.m,.int .i64 H.l,.int .i64 H.v] 127)) ⟨b9,0,none⟩ (.int .i64 i)) ⟨b9,1,none⟩ (.int .i64 0)) ⟨b9,2,none⟩ (.int .i64 0)) ⟨b9,3,none⟩ (.int .i64 0)) ⟨b9,4,none⟩ (.int .i64 0)).drew=wA at HBA HKA ⊢
   obtain⟨p0,p1,p2,p3,p4⟩:=cell5 (HKA.out.blk HM.out.p (by have:=HSEP.out;simp;omega))
   refine hK.out _ _ (by exact⟨trivial,p0,p1,p2,p3,p4⟩) (fun hHeld=> ?_)
   clear hK K
   try simp only[Act.put,pA,pB,pC]
   refine tK 3 8 rfl ?_
   try simp only[Act.put,pA,pB,pC]
   refine wpAnyH_done (by kernel_rfl) ?_ _
   refine NoPanic.normal ?_
   go_wp2
   obtain⟨v0,v1,v2,v3,v4⟩:=cell5 HBA.out
   have HK9:=hide (HK.out.trans HKA.out (fun i hi=>by simp at hi;subst hi;have:=HSEP.out;exact .inr (by omega)))
   refine bodyPost_ret (v:= .tuple #[.slice none 0 0,.agg #[.int .i64 i,.int .i64 0,.int .i64 0,.int .i64 0,.int .i64 0],.int .i64 0]) ?_ rfl ⟨RScanOut.nil (p:=⟨i,0,0,0,0⟩) HE0.out.1 HE0.out.2.1 HE0.out.2.2,HK9.out⟩
   simp [results,Tryz.results27,go_sem,v0,v1,v2,v3,v4]
 ·have t0:(e1 != 0)=true:=bne_iff_ne.2 he1
  have HE0:=hide (show L=[]∧E=⟨i,0,0,0,0⟩∧err=e1 by
   rw[if_neg he1]at hl64
   have hb1:b1=[]:=List.eq_nil_of_length_eq_zero hl64
   have hnf:¬((hd.decode b1).2=0):=by
    rw[hb1,hd_nil]
    simp
   have h1:=HSC.out
   unfold scanOf at h1
   rw[HSTART.out,if_neg hnf]at h1
   injection h1 with h2 h3
   injection h3 with h4 h5
   exact⟨h2.symm,h4.symm,h5.symm⟩)
  clear he1 hl64 kA
  obtain⟨p0,p1,p2,p3,p4⟩:=cell5 HM.out.p
  obtain⟨r0,r1,r2,r3,r4⟩:=cell5 HM.out.r
  have fr:=HM.out.r.frozen
  have fr0:=fr 0
  have fr1:=fr 1
  have fr2:=fr 2
  have fr3:=fr 3
  have fr4:=fr 4
  have HBA:=hide ((put5 (.int .i64 i) (.int .i64 0) (.int .i64 0) (.int .i64 0) (.int .i64 0) HM.out.r).drew)
  have HKA:=hide ((put5_kept (g:=b9) (S:=[b9]) (.int .i64 i) (.int .i64 0) (.int .i64 0) (.int .i64 0) (.int .i64 0) (Kept.refl [b9] (w7.alloc (.cells #[.int .i64 i,.int .i64 0,.int .i64 0,.int .i64 0,.int .i64 0] 24))) (.inl (by simp))).drew)
  clear fr
  go_wp2
  refine wp_region_noPanic ?_
  refine wp_region_held_drew (S:=fun W=>True∧W.cell? ⟨w7.heap.size,0,none⟩=some (.int .i64 i)∧W.cell? ⟨w7.heap.size,1,none⟩=some (.int .i64 0)∧W.cell? ⟨w7.heap.size,2,none⟩=some (.int .i64 0)∧W.cell? ⟨w7.heap.size,3,none⟩=some (.int .i64 0)∧W.cell? ⟨w7.heap.size,4,none⟩=some (.int .i64 0)) (by kernel_rfl) (by exact⟨trivial,p0,p1,p2,p3,p4⟩) (fun hHeld=> ?_)
  refine tK 0 26 rfl ?_
  try simp only[Act.put,pA,pB,pC]
  refine tK 1 27 rfl ?_
  try simp only[Act.put,pA,pB,pC]
  refine tK 2 6 rfl ?_
  try simp only[Act.put,pA,pB,pC]
  refine hO 3 none rfl fun K hK=> ?_
  go_simp
  generalize (World.setCell (World.setCell (World.setCell (World.setCell (World.setCell (w7.alloc (.cells #[.int .i64 i,.int .i64 0,.int .i64 0,.int .i64 0,.int .i64 0] 24)) ⟨b9,0,none⟩ (.int .i64 i)) ⟨b9,1,none⟩ (.int .i64 0)) ⟨b9,2,none⟩ (.int .i64 0)) ⟨b9,3,none⟩ (.int .i64 0)) ⟨b9,4,none⟩ (.int .i64 0)).drew=wA at HBA HKA ⊢
  obtain⟨p0,p1,p2,p3,p4⟩:=cell5 (HKA.out.blk HM.out.p (by have:=HSEP.out;simp;omega))
  refine hK.out _ _ (by exact⟨trivial,p0,p1,p2,p3,p4⟩) (fun hHeld=> ?_)
  clear hK K
  try simp only[Act.put,pA,pB,pC]
  refine tK 4 8 rfl ?_
  try simp only[Act.put,pA,pB,pC]
  refine wpAnyH_done (by kernel_rfl) ?_ _
  refine NoPanic.normal ?_
  go_wp2
  obtain⟨v0,v1,v2,v3,v4⟩:=cell5 HBA.out
  have HK9:=hide (HK.out.trans HKA.out (fun i hi=>by simp at hi;subst hi;have:=HSEP.out;exact .inr (by omega)))
  refine bodyPost_ret (v:= .tuple #[.slice none 0 0,.agg #[.int .i64 i,.int .i64 0,.int .i64 0,.int .i64 0,.int .i64 0],.int .i64 e1]) ?_ rfl ⟨RScanOut.nil (p:=⟨i,0,0,0,0⟩) HE0.out.1 HE0.out.2.1 HE0.out.2.2,HK9.out⟩
  simp [results,Tryz.results27,go_sem,v0,v1,v2,v3,v4]
end Go.Proofs.YtjkmahmoclobmaaGreat.sc
